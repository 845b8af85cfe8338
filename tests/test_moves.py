"""[8], [9], [10] Free slots, moves, and what they reach."""

import unittest

from reslot.books import Book
from reslot.errors import NoMove, NoTimetable, TooMany
from reslot.moves import free_slots, moved, moves, reached
from tests.helper import all_timetables, component, no_integers, raised, small_books, step_between

BOOK = Book(4, [[0, 1], [1, 2], [3]])


class Raises(unittest.TestCase):
    def assert_raises(self, kind, field, value, call, *args, **more):
        error = raised(call, *args, **more)
        self.assertIs(type(error), kind)
        self.assertIs(type(getattr(error, field)), type(value))
        self.assertEqual(getattr(error, field), value)

    def assert_no_timetables(self, call, *rest):
        for index, timetable in ((-1, [0, 1, 3]), (-1, None), (-1, (0, 1)), (0, (2, 1, 3)), (0, (False, 1, 3)),
                                 (1, (1, 1, 3)), (2, (0, 1, [])), (-1, "013"), (-1, {})):
            with self.subTest(timetable):
                self.assert_raises(NoTimetable, "index", index, call, BOOK, timetable, *rest)


class FreeSlots(Raises):
    def test_every_small_book(self):
        for book, rows, size in small_books():
            for timetable in all_timetables(size, rows):
                self.assertEqual(free_slots(book, timetable), sorted(set(range(size)) - set(timetable)))

    def test_no_free_slot(self):
        self.assertEqual(free_slots(Book(2, [[0, 1], [0, 1]]), (1, 0)), [])
        self.assertEqual(free_slots(Book(60, [[k] for k in range(60)]), tuple(range(60))), [])

    def test_all_slots_free(self):
        self.assertEqual(free_slots(Book(3, []), ()), [0, 1, 2])
        self.assertEqual(free_slots(Book(60, []), ()), list(range(60)))

    def test_slot_that_no_appointment_may_use(self):
        self.assertEqual(free_slots(Book(4, [[2]]), (2,)), [0, 1, 3])

    def test_no_timetable(self):
        self.assert_no_timetables(free_slots)


class Moves(Raises):
    def test_every_small_book(self):
        for book, rows, size in small_books():
            valid = all_timetables(size, rows)
            for timetable in valid:
                steps = sorted(step for step in (step_between(timetable, other) for other in valid) if step)
                self.assertEqual(moves(book, timetable), steps)

    def test_ascending(self):
        book = Book(5, [[0, 3, 4], [1, 2, 3], [0, 4]])
        self.assertEqual(moves(book, (3, 1, 4)), [(0, 0), (1, 2), (2, 0)])
        self.assertEqual(moves(book, (0, 2, 4)), [(0, 3), (1, 1), (1, 3)])

    def test_nothing_can_move(self):
        self.assertEqual(moves(Book(2, [[0, 1], [0, 1]]), (0, 1)), [])
        self.assertEqual(moves(Book(4, [[0, 1], [0, 1], [2]]), (0, 1, 2)), [])
        self.assertEqual(moves(Book(3, []), ()), [])

    def test_kinds(self):
        found = moves(BOOK, (0, 1, 3))
        self.assertIs(type(found), list)
        self.assertEqual([type(step) for step in found], [tuple])

    def test_no_timetable(self):
        self.assert_no_timetables(moves)


class Moved(Raises):
    def assert_no_move(self, index, steps, timetable=(0, 1, 3), book=BOOK):
        self.assert_raises(NoMove, "index", index, moved, book, timetable, steps)

    def test_no_steps(self):
        self.assertEqual(moved(BOOK, (0, 1, 3), []), (0, 1, 3))
        self.assertEqual(moved(Book(3, []), (), []), ())

    def test_every_small_move(self):
        for book, rows, size in small_books():
            valid = all_timetables(size, rows)
            for timetable in valid:
                later = {moved(book, timetable, [step]) for step in moves(book, timetable)}
                self.assertEqual(later, {other for other in valid if step_between(timetable, other)})

    def test_every_small_wrong_move(self):
        for book, rows, size in small_books():
            for timetable in all_timetables(size, rows):
                good = moves(book, timetable)
                for appointment in range(-len(rows) - 1, len(rows) + 2):
                    for slot in range(-size - 1, size + 2):
                        if (appointment, slot) not in good:
                            self.assert_no_move(0, [(appointment, slot)], timetable, book)

    def test_several_moves(self):
        later = moved(BOOK, (0, 1, 3), [(1, 2), (0, 1)])
        self.assertIs(type(later), tuple)
        self.assertEqual(later, (1, 2, 3))

    def test_the_same_appointment_twice(self):
        self.assertEqual(moved(Book(4, [[0, 1, 3]]), (0,), [(0, 1), (0, 3)]), (3,))
        self.assertEqual(moved(Book(4, [[0, 1, 3]]), (0,), [(0, 1), (0, 0)]), (0,))
        self.assertEqual(moved(BOOK, (0, 1, 3), [(1, 2), (0, 1), (0, 0)]), (0, 2, 3))

    def test_a_slot_that_became_free(self):
        self.assertEqual(moved(BOOK, (0, 1, 3), [(1, 2), (0, 1)]), (1, 2, 3))
        self.assert_no_move(0, [(0, 1), (1, 2)])

    def test_a_slot_that_became_occupied(self):
        self.assert_no_move(1, [(0, 2), (1, 2)], (0, 1), Book(3, [[0, 2], [1, 2]]))

    def test_steps_that_are_no_list(self):
        for steps in [1, ((1, 2),), *no_integers()]:
            if isinstance(steps, list):
                continue
            with self.subTest(type(steps)):
                self.assert_no_move(-1, steps)

    def test_first_impossible_move(self):
        never = ((1, 3), (0, 2), (1, 0), (3, 2), (-2, 2), (1, -2), (1, 4), (2, 2), (2, 3))
        for wrong in ((0, 1), (0, 0), *never):
            with self.subTest(wrong):
                self.assert_no_move(0, [wrong, wrong])
        for wrong in ((1, 2), (0, 1), *never):
            with self.subTest(wrong):
                self.assert_no_move(2, [(1, 2), (0, 1), wrong, (9, 9)])

    def test_own_slot(self):
        self.assert_no_move(0, [(1, 1)])
        self.assert_no_move(1, [(1, 2), (1, 2)])

    def test_bools(self):
        book = Book(3, [[0, 1], [1, 2]])
        self.assert_no_move(0, [(True, 2)], (0, 1), book)
        self.assert_no_move(1, [(1, 2), (0, True)], (0, 1), book)
        self.assert_no_move(1, [(1, 2), (False, 1)], (0, 1), book)
        self.assert_no_move(0, [(0, False)], (1, 2), book)

    def test_items_that_are_no_pairs(self):
        for item in (1, [1, 2], (), (1,), (1, 2, 3), (1, 2, None), "12", {1: 2}, {1, 2}, b"12", range(1, 3), ((1, 2),)):
            with self.subTest(item):
                self.assert_no_move(0, [item])
                self.assert_no_move(1, [(1, 2), item, item])

    def test_items_of_other_kinds(self):
        for value in no_integers():
            with self.subTest(type(value)):
                if not isinstance(value, tuple):
                    self.assert_no_move(1, [(1, 2), value])
                self.assert_no_move(1, [(1, 2), (value, 1)])
                self.assert_no_move(1, [(1, 2), (0, value)])
                self.assert_no_move(1, [(1, 2), (value, value)])

    def test_no_timetable(self):
        self.assert_no_timetables(moved, [])

    def test_no_timetable_goes_before_no_move(self):
        for steps in (None, ((1, 2),), [None], [(9, 9)]):
            self.assert_no_timetables(moved, steps)

    def test_arguments_stay_as_they_are(self):
        steps, timetable = [(1, 2), (0, 1)], (0, 1, 3)
        moved(BOOK, timetable, steps)
        self.assertEqual(steps, [(1, 2), (0, 1)])
        self.assertEqual(timetable, (0, 1, 3))
        wrong = [(1, 2), (9, 9)]
        self.assert_no_move(1, wrong)
        self.assertEqual(wrong, [(1, 2), (9, 9)])


def apart(*sizes):
    """A book of appointments that share no slot, with so many slots each, and its first timetable."""
    rows, first = [], 0
    for size in sizes:
        rows.append(list(range(first, first + size)))
        first += size
    return Book(first, rows), tuple(row[0] for row in rows)


class Reached(Raises):
    def assert_too_many(self, most, book, timetable):
        self.assert_raises(TooMany, "most", most, reached, book, timetable, most=most)

    def test_every_small_book(self):
        for book, rows, size in small_books():
            valid = all_timetables(size, rows)
            for timetable in valid:
                expected = component(valid, timetable)
                self.assertEqual(reached(book, timetable), expected)
                self.assertEqual(reached(book, timetable, most=len(expected)), expected)
                self.assert_too_many(len(expected) - 1, book, timetable)

    def test_valid_timetables_that_are_not_reached(self):
        self.assertEqual(reached(Book(3, [[0, 1], [0, 1]]), (0, 1)), [(0, 1)])
        self.assertEqual(reached(Book(4, [[0, 1], [0, 1], [1, 2, 3]]), (1, 0, 2)), [(1, 0, 2), (1, 0, 3)])

    def test_after_several_moves(self):
        book = Book(3, [[0, 1], [0, 1, 2]])
        self.assertEqual(reached(book, (0, 1)), [(0, 1), (0, 2), (1, 0), (1, 2)])

    def test_no_appointments(self):
        self.assertEqual(reached(Book(3, []), ()), [()])

    def test_the_same_from_each_member(self):
        book = Book(6, [[0, 1, 2], [1, 2, 3], [2, 3, 4], [0, 4], [5]])
        found = reached(book, (0, 1, 2, 4, 5))
        self.assertGreater(len(found), 5)
        self.assertEqual(found, sorted(set(found)))
        for timetable in found:
            self.assertEqual(reached(book, timetable), found)

    def test_kinds(self):
        found = reached(BOOK, (0, 1, 3))
        self.assertIs(type(found), list)
        self.assertEqual({type(timetable) for timetable in found}, {tuple})

    def test_most(self):
        book, start = apart(3, 4)
        self.assertEqual(len(reached(book, start, most=12)), 12)
        self.assertEqual(len(reached(book, start, most=13)), 12)
        for most in (11, 6, 1, 0):
            self.assert_too_many(most, book, start)

    def test_most_zero(self):
        self.assert_too_many(0, Book(3, []), ())
        self.assert_too_many(0, Book(1, [[0]]), (0,))
        self.assertEqual(reached(Book(1, [[0]]), (0,), most=1), [(0,)])

    def test_exactly_a_thousand(self):
        book, start = apart(10, 10, 10)
        found = reached(book, start)
        self.assertEqual(found, [(a, b, c) for a in range(10) for b in range(10, 20) for c in range(20, 30)])
        self.assertEqual(reached(book, start, most=1000), found)
        self.assert_too_many(999, book, start)
        book, start = apart(2, 5, 4, 25)
        self.assertEqual(len(reached(book, start)), 1000)

    def test_more_than_a_thousand(self):
        for sizes, many in (((7, 11, 13), 1001), ((2,) * 10, 1024)):
            book, start = apart(*sizes)
            self.assert_raises(TooMany, "most", 1000, reached, book, start)
            self.assert_too_many(many - 1, book, start)
            self.assertEqual(len(reached(book, start, most=many)), many)

    def test_far_too_many(self):
        book = Book(60, [list(range(60))] * 30)
        start = tuple(range(30))
        self.assert_raises(TooMany, "most", 1000, reached, book, start)
        for most in (0, 1, 5000):
            self.assert_too_many(most, book, start)

    def test_sixty_slots_that_are_full(self):
        book = Book(60, [list(range(60))] * 60)
        start = tuple(range(60))
        self.assertEqual(reached(book, start, most=1), [start])

    def test_most_by_keyword_alone(self):
        self.assertRaises(TypeError, reached, BOOK, (0, 1, 3), 1000)

    def test_no_timetable(self):
        self.assert_no_timetables(reached)

    def test_no_timetable_goes_before_too_many(self):
        self.assert_raises(NoTimetable, "index", 0, reached, BOOK, (2, 1, 3), most=0)
        self.assert_raises(NoTimetable, "index", -1, reached, BOOK, [0, 1, 3], most=0)
