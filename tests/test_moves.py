"""[8], [9] Free slots and moves."""

from reslot.books import Book
from reslot.errors import NoMove
from reslot.moves import free_slots, moved, moves
from tests.helper import BOOK, Raises, all_timetables, no_integers, small_books, step_between


class FreeSlots(Raises):
    def test_every_small_book(self):
        for book, rows, size in small_books():
            for timetable in all_timetables(size, rows):
                self.assertEqual(free_slots(book, timetable), sorted(set(range(size)) - set(timetable)))

    def test_no_free_slot(self):
        self.assertEqual(free_slots(Book(2, [[0, 1], [0, 1]]), (1, 0)), [])
        self.assertEqual(free_slots(Book(60, [[k] for k in range(60)]), tuple(range(60))), [])

    def test_all_slots_free(self):
        self.assertEqual(free_slots(Book(3, []), ()), [0, 1, 2])
        self.assertEqual(free_slots(Book(60, []), ()), list(range(60)))

    def test_slot_that_no_appointment_may_use(self):
        self.assertEqual(free_slots(Book(4, [[2]]), (2,)), [0, 1, 3])

    def test_no_timetable(self):
        self.assert_no_timetables(free_slots)


class Moves(Raises):
    def test_every_small_book(self):
        for book, rows, size in small_books():
            valid = all_timetables(size, rows)
            for timetable in valid:
                steps = sorted(step for step in (step_between(timetable, other) for other in valid) if step)
                self.assertEqual(moves(book, timetable), steps)

    def test_ascending(self):
        book = Book(5, [[0, 3, 4], [1, 2, 3], [0, 4]])
        self.assertEqual(moves(book, (3, 1, 4)), [(0, 0), (1, 2), (2, 0)])
        self.assertEqual(moves(book, (0, 2, 4)), [(0, 3), (1, 1), (1, 3)])

    def test_nothing_can_move(self):
        self.assertEqual(moves(Book(2, [[0, 1], [0, 1]]), (0, 1)), [])
        self.assertEqual(moves(Book(4, [[0, 1], [0, 1], [2]]), (0, 1, 2)), [])
        self.assertEqual(moves(Book(3, []), ()), [])

    def test_kinds(self):
        found = moves(BOOK, (0, 1, 3))
        self.assertIs(type(found), list)
        self.assertEqual([type(step) for step in found], [tuple])

    def test_no_timetable(self):
        self.assert_no_timetables(moves)


class Moved(Raises):
    def assert_no_move(self, index, steps, timetable=(0, 1, 3), book=BOOK):
        self.assert_raises(NoMove, "index", index, moved, book, timetable, steps)

    def test_no_steps(self):
        self.assertEqual(moved(BOOK, (0, 1, 3), []), (0, 1, 3))
        self.assertEqual(moved(Book(3, []), (), []), ())

    def test_every_small_move(self):
        for book, rows, size in small_books():
            valid = all_timetables(size, rows)
            for timetable in valid:
                later = {moved(book, timetable, [step]) for step in moves(book, timetable)}
                self.assertEqual(later, {other for other in valid if step_between(timetable, other)})

    def test_every_small_wrong_move(self):
        for book, rows, size in small_books():
            for timetable in all_timetables(size, rows):
                good = moves(book, timetable)
                for appointment in range(-len(rows) - 1, len(rows) + 2):
                    for slot in range(-size - 1, size + 2):
                        if (appointment, slot) not in good:
                            self.assert_no_move(0, [(appointment, slot)], timetable, book)

    def test_several_moves(self):
        later = moved(BOOK, (0, 1, 3), [(1, 2), (0, 1)])
        self.assertIs(type(later), tuple)
        self.assertEqual(later, (1, 2, 3))

    def test_the_same_appointment_twice(self):
        self.assertEqual(moved(Book(4, [[0, 1, 3]]), (0,), [(0, 1), (0, 3)]), (3,))
        self.assertEqual(moved(Book(4, [[0, 1, 3]]), (0,), [(0, 1), (0, 0)]), (0,))
        self.assertEqual(moved(BOOK, (0, 1, 3), [(1, 2), (0, 1), (0, 0)]), (0, 2, 3))

    def test_a_slot_that_became_free(self):
        self.assertEqual(moved(BOOK, (0, 1, 3), [(1, 2), (0, 1)]), (1, 2, 3))
        self.assert_no_move(0, [(0, 1), (1, 2)])

    def test_a_slot_that_became_occupied(self):
        self.assert_no_move(1, [(0, 2), (1, 2)], (0, 1), Book(3, [[0, 2], [1, 2]]))

    def test_steps_that_are_no_list(self):
        for steps in [1, ((1, 2),), *no_integers()]:
            if isinstance(steps, list):
                continue
            with self.subTest(type(steps)):
                self.assert_no_move(-1, steps)

    def test_first_impossible_move(self):
        never = ((1, 3), (0, 2), (1, 0), (3, 2), (-2, 2), (1, -2), (1, 4), (2, 2), (2, 3))
        for wrong in ((0, 1), (0, 0), *never):
            with self.subTest(wrong):
                self.assert_no_move(0, [wrong, wrong])
        for wrong in ((1, 2), (0, 1), *never):
            with self.subTest(wrong):
                self.assert_no_move(2, [(1, 2), (0, 1), wrong, (9, 9)])

    def test_own_slot(self):
        self.assert_no_move(0, [(1, 1)])
        self.assert_no_move(1, [(1, 2), (1, 2)])

    def test_bools(self):
        book = Book(3, [[0, 1], [1, 2]])
        self.assert_no_move(0, [(True, 2)], (0, 1), book)
        self.assert_no_move(1, [(1, 2), (0, True)], (0, 1), book)
        self.assert_no_move(1, [(1, 2), (False, 1)], (0, 1), book)
        self.assert_no_move(0, [(0, False)], (1, 2), book)

    def test_items_that_are_no_pairs(self):
        for item in (1, [1, 2], (), (1,), (1, 2, 3), (1, 2, None), "12", {1: 2}, {1, 2}, b"12", range(1, 3), ((1, 2),)):
            with self.subTest(item):
                self.assert_no_move(0, [item])
                self.assert_no_move(1, [(1, 2), item, item])

    def test_items_of_other_kinds(self):
        for value in no_integers():
            with self.subTest(type(value)):
                if not isinstance(value, tuple):
                    self.assert_no_move(1, [(1, 2), value])
                self.assert_no_move(1, [(1, 2), (value, 1)])
                self.assert_no_move(1, [(1, 2), (0, value)])
                self.assert_no_move(1, [(1, 2), (value, value)])

    def test_no_timetable(self):
        self.assert_no_timetables(moved, [])

    def test_no_timetable_goes_before_no_move(self):
        for steps in (None, ((1, 2),), [None], [(9, 9)]):
            self.assert_no_timetables(moved, steps)

    def test_arguments_stay_as_they_are(self):
        steps, timetable = [(1, 2), (0, 1)], (0, 1, 3)
        moved(BOOK, timetable, steps)
        self.assertEqual(steps, [(1, 2), (0, 1)])
        self.assertEqual(timetable, (0, 1, 3))
        wrong = [(1, 2), (9, 9)]
        self.assert_no_move(1, wrong)
        self.assertEqual(wrong, [(1, 2), (9, 9)])
