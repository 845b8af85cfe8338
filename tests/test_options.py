"""[4], [22], [23], [24], [25] Options, appointments brought to a slot, and new appointments."""

from itertools import combinations, permutations

from reslot.books import Book
from reslot.errors import Frozen, NoAppointment, NoBook, NoCertificate, NoSlot, NotAllowed
from reslot.moves import moved, reached
from reslot.opening import check_tight, open_slots
from reslot.options import bring, check_insert, insert, options
from tests.helper import (BOOK, START, Raises, corridor, distances, mixed_books, no_integers, played,
                          small_timetables)


def no_lists_of_slots():
    """Values that are no ascending list of different slots below 4, at least one."""
    wrong = [[], [4], [-1], [-1, 0], [0, 4], [0, 0], [0, 1, 1], [1, 0], [0, 2, 1], [3, 0], [True], [False, 1],
             [0, True], [None], ["0"], [(0,)], [[0]], [0, "1"], [0, None], [{}], (0, 1), (3,), 0, 3, -1, range(3)]
    wrong += [value for value in no_integers() if not (isinstance(value, list) and value == [0])]
    return wrong + [[value] for value in no_integers()] + [[0, value] for value in no_integers()]


class Options(Raises):
    def test_against_what_is_reached(self):
        for book, rows, size, timetable in small_timetables(22):
            found = reached(book, timetable)
            for appointment in range(len(rows)):
                answer = options(book, timetable, appointment)
                self.assertIs(type(answer), list)
                self.assertEqual(answer, sorted({other[appointment] for other in found}))

    def test_an_appointment_that_is_not_frozen(self):
        """[4] It can be brought to each open slot that it may use, and to no other one."""
        for book, rows, size, timetable in small_timetables(22):
            found = distances(size, rows, timetable)
            opened = open_slots(book, timetable)
            for appointment, row in enumerate(rows):
                if timetable[appointment] in opened:
                    self.assertEqual(options(book, timetable, appointment), [slot for slot in row if slot in opened])
                    self.assertEqual({other[appointment] for other in found}, {slot for slot in row if slot in opened})

    def test_frozen_appointments(self):
        book = Book(6, [[0, 1], [0, 1], [1, 2, 3], [4]])
        self.assertEqual([options(book, (1, 0, 2, 4), k) for k in range(4)], [[1], [0], [2, 3], [4]])
        full = Book(60, [list(range(60))] * 60)
        self.assertEqual([options(full, tuple(range(60)), k) for k in range(60)], [[k] for k in range(60)])

    def test_sixty_slots(self):
        book, _, _, start = corridor(60)
        self.assertEqual([options(book, start, k) for k in range(59)], [[k, k + 1] for k in range(59)])
        book = Book(60, [list(range(60))] * 59)
        self.assertEqual(options(book, tuple(range(59)), 58), list(range(60)))

    def test_no_appointment(self):
        for value in [-1, -3, 3, 4, 60, 10 ** 5000, *no_integers()]:
            with self.subTest(type(value)):
                self.assert_keeps(NoAppointment, "appointment", value, options, BOOK, START, value)
        self.assert_keeps(NoAppointment, "appointment", 0, options, Book(3, []), (), 0)

    def test_no_timetable(self):
        for appointment in (0, 2, 3, -1, None, []):
            self.assert_no_timetables(options, appointment)


class Bring(Raises):
    def assert_brought(self, fewest, book, rows, size, timetable, appointment, slot):
        steps = bring(book, timetable, appointment, slot)
        self.assertIs(type(steps), list)
        self.assertEqual({type(step) for step in steps}, {tuple} if steps else set())
        self.assertEqual(played(size, rows, timetable, steps)[appointment], slot)
        self.assertEqual(moved(book, timetable, steps)[appointment], slot)
        self.assertEqual(len(steps), fewest)

    def test_against_a_plain_search(self):
        for book, rows, size, timetable in small_timetables(22):
            found = distances(size, rows, timetable)
            closed = tuple(slot for slot in range(size) if all(slot in other for other in found))
            for appointment, row in enumerate(rows):
                for slot in range(size):
                    if slot not in row:
                        self.assert_raises(NotAllowed, "slot", slot, bring, book, timetable, appointment, slot)
                    elif timetable[appointment] == slot or slot not in closed:
                        fewest = min(found[other] for other in found if other[appointment] == slot)
                        self.assert_brought(fewest, book, rows, size, timetable, appointment, slot)
                    else:
                        self.assert_raises(Frozen, "slots", closed, bring, book, timetable, appointment, slot)

    def test_books_with_one_free_slot(self):
        for book, rows, size, start in mixed_books(23, 500, most_slots=7, fewest_slots=4):
            found = distances(size, rows, start, 400)
            for appointment, row in enumerate(rows):
                for slot in set(row) & set(open_slots(book, start)) if found else ():
                    fewest = min(found[other] for other in found if other[appointment] == slot)
                    self.assert_brought(fewest, book, rows, size, start, appointment, slot)

    def test_there_already(self):
        self.assertEqual(bring(BOOK, START, 0, 0), [])
        self.assertEqual(bring(BOOK, START, 2, 3), [])
        full = Book(60, [list(range(60))] * 60)
        self.assertEqual(bring(full, tuple(range(60)), 59, 59), [])

    def test_free_slot(self):
        self.assertEqual(bring(BOOK, START, 1, 2), [(1, 2)])

    def test_appointment_must_step_aside_first(self):
        # The way from slot 1 leads through the home of appointment 0 only.
        book = Book(3, [[0, 1, 2], [0, 1]])
        self.assertEqual(bring(book, (0, 1), 0, 1), [(0, 2), (1, 0), (0, 1)])
        book = Book(5, [[0, 1, 2], [0, 1], [2, 3], [3, 4]])
        self.assertEqual(bring(book, (0, 1, 2, 3), 0, 1), [(3, 4), (2, 3), (0, 2), (1, 0), (0, 1)])

    def test_stepping_aside_is_shorter_than_a_long_way(self):
        rows = [[0, 1, 20], [0, 1, 2]] + [[k, k + 1] for k in range(2, 10)]
        book, start = Book(21, rows), tuple(range(10))
        self.assert_brought(3, book, rows, 21, start, 0, 1)
        rows[0] = [0, 1]
        self.assert_brought(10, Book(21, rows), rows, 21, start, 0, 1)

    def test_a_long_way_is_shorter_than_stepping_aside(self):
        rows = [[0, 1, 3], [0, 1, 2], [2, 6], [3, 4], [4, 5]]
        self.assert_brought(3, Book(7, rows), rows, 7, (0, 1, 2, 3, 4), 0, 1)

    def test_the_two_ways_would_meet(self):
        # Aside, appointment 0 would go through slot 2, and the way from slot 1 to its home leads there, too.
        rows = [[0, 1, 2], [1, 2], [0, 2, 3]]
        self.assert_brought(3, Book(4, rows), rows, 4, (0, 1, 2), 0, 1)

    def test_sixty_slots(self):
        book, rows, size, start = corridor(60)
        self.assert_brought(59, book, rows, size, start, 0, 1)
        self.assert_brought(1, book, rows, size, start, 58, 59)
        rows = [[0, 1], *([k - 1, k, k + 1] for k in range(1, 58)), [57, 58, 59]]
        rows[0] = [0, 57, 58]
        self.assert_brought(3, Book(60, rows), rows, 60, tuple(range(59)), 0, 57)
        self.assert_brought(2, Book(60, rows), rows, 60, tuple(range(59)), 0, 58)

    def test_no_appointment(self):
        for value in [-1, -3, 3, 4, 60, 10 ** 5000, *no_integers()]:
            with self.subTest(type(value)):
                self.assert_keeps(NoAppointment, "appointment", value, bring, BOOK, START, value, 0)
                self.assert_keeps(NoAppointment, "appointment", value, bring, BOOK, START, value, -1)
                self.assert_keeps(NoAppointment, "appointment", value, bring, BOOK, START, value, None)

    def test_no_slot(self):
        for value in [-1, -4, 4, 5, 60, 10 ** 5000, *no_integers()]:
            with self.subTest(type(value)):
                for appointment in (0, 1, 2):
                    self.assert_keeps(NoSlot, "slot", value, bring, BOOK, START, appointment, value)

    def test_not_allowed(self):
        for appointment, slots in ((0, (2, 3)), (1, (0, 3)), (2, (0, 1, 2))):
            for slot in slots:
                self.assert_raises(NotAllowed, "slot", slot, bring, BOOK, START, appointment, slot)

    def test_closed_slot(self):
        book = Book(6, [[0, 1], [0, 1], [1, 2, 3], [4]])
        self.assert_raises(Frozen, "slots", (0, 1, 4), bring, book, (0, 1, 2, 4), 0, 1)
        self.assert_raises(Frozen, "slots", (0, 1, 4), bring, book, (0, 1, 2, 4), 2, 1)
        self.assertEqual(bring(book, (0, 1, 2, 4), 0, 0), [])
        # Not allowed goes before closed.
        self.assert_raises(NotAllowed, "slot", 4, bring, book, (0, 1, 2, 4), 0, 4)

    def test_no_timetable(self):
        for appointment, slot in ((0, 1), (None, 1), (0, None), (9, 9), (2, 0), (2, 3)):
            self.assert_no_timetables(bring, appointment, slot)


class Insert(Raises):
    def test_against_a_plain_search(self):
        for book, rows, size, timetable in small_timetables(22):
            found = distances(size, rows, timetable)
            closed = tuple(slot for slot in range(size) if all(slot in other for other in found))
            for many in range(1, min(size, 3) + 1):
                for allowed in map(list, combinations(range(size), many)):
                    answer = insert(book, timetable, allowed)
                    self.assertIsNone(check_insert(book, timetable, allowed, answer))
                    # [4] It can be placed if and only if it may use an open slot.
                    if set(allowed) <= set(closed):
                        self.assertEqual(answer, ("full", closed))
                        self.assertIsNone(check_tight(book, timetable, closed))
                        continue
                    word, steps, slot = answer
                    self.assertEqual((word, type(steps), type(slot)), ("placed", list, int))
                    self.assertIn(slot, allowed)
                    self.assertNotIn(slot, played(size, rows, timetable, steps))
                    self.assertEqual(len(steps), min(found[other] for other in found if set(allowed) - set(other)))

    def test_free_slot(self):
        self.assertEqual(insert(BOOK, START, [2]), ("placed", [], 2))
        self.assertEqual(insert(BOOK, START, [0, 1, 2, 3]), ("placed", [], 2))
        self.assertEqual(insert(Book(60, []), (), [59]), ("placed", [], 59))

    def test_nearest_allowed_slot(self):
        book, _, _, start = corridor(60)
        self.assertEqual(insert(book, start, [0, 20, 57]), ("placed", [(58, 59), (57, 58)], 57))
        self.assertEqual(insert(book, start, [0]), ("placed", [(k, k + 1) for k in range(58, -1, -1)], 0))
        backwards = Book(60, [[k - 1, k] for k in range(1, 60)])
        self.assertEqual(insert(backwards, tuple(range(1, 60)), [2, 40, 59]), ("placed", [(0, 0), (1, 1)], 2))

    def test_full(self):
        full = Book(60, [list(range(60))] * 60)
        self.assertEqual(insert(full, tuple(range(60)), [7]), ("full", tuple(range(60))))
        book = Book(6, [[0, 1], [0, 1], [1, 2, 3], [4]])
        self.assertEqual(insert(book, (0, 1, 2, 4), [0, 1]), ("full", (0, 1, 4)))
        self.assertEqual(insert(book, (0, 1, 2, 4), [0, 2]), ("placed", [(2, 3)], 2))

    def test_as_many_appointments_as_there_may_be(self):
        book = Book(60, [[k] for k in range(60)])
        self.assertEqual(insert(book, tuple(range(60)), [0])[0], "full")

    def test_no_list_of_slots(self):
        for number, allowed in enumerate(no_lists_of_slots()):
            with self.subTest(number):
                self.assert_raises(NoBook, "index", 3, insert, BOOK, START, allowed)
                self.assert_raises(NoBook, "index", 0, insert, Book(4, []), (), allowed)
        self.assert_raises(NoBook, "index", 1, insert, Book(3, [[0]]), (0,), [3])
        self.assertEqual(insert(Book(4, [[0]]), (0,), [3]), ("placed", [], 3))

    def test_no_timetable(self):
        for allowed in ([0], [2, 3], [], None, (0,), [9]):
            self.assert_no_timetables(insert, allowed)


class CheckInsert(Raises):
    book = Book(6, [[0, 1], [1, 2], [3, 4], [3, 4], [5]])
    start = (0, 1, 3, 4, 5)

    def assert_wrong(self, index, allowed, answer):
        self.assert_raises(NoCertificate, "index", index, check_insert, self.book, self.start, allowed, answer)

    def test_any_list_of_moves(self):
        for steps, allowed, slot in (([], [2], 2), ([], [0, 2, 5], 2), ([(1, 2)], [1, 3], 1), ([(1, 2)], [0, 1], 1),
                                     ([(1, 2), (0, 1)], [0, 1], 0), ([(1, 2), (1, 1), (1, 2), (0, 1)], [0, 2], 0)):
            self.assertIsNone(check_insert(self.book, self.start, allowed, ("placed", steps, slot)))

    def test_any_tight_set(self):
        for allowed, tight in (([3], (3, 4)), ([3, 4], (3, 4)), ([4], (3, 4, 5)), ([3, 5], (3, 4, 5)), ([5], (5,)),
                               ([3, 4, 5], (3, 4, 5))):
            for slots in permutations(tight):
                self.assertIsNone(check_insert(self.book, self.start, allowed, ("full", slots)))

    def test_other_kinds(self):
        wrong = [1, "placed", "full", [], ["placed", [], 2], {"placed": 2}, (), ("placed",), ("full",), ("placed", []),
                 ("placed", [], 2, 2), ("placed", (), 2), ("placed", None, 2), ("placed", "", 2), ("placed", {}, 2),
                 ("placed", 2, []), ("full", []), ("full", [3, 4]), ("full", None), ("full", {3, 4}), ("full", 3),
                 ("full", (3, 4), 3), ("full", (3, 4), ()), ("placed", (3, 4)), ("full", [], 2), ("Placed", [], 2),
                 ("plan", [], 2), ("frozen", 2, (3, 4)), ("", [], 2), (["placed"], [], 2), ({"placed": 1}, [], 2),
                 ({}, [], 2), (True, [], 2), (None, [], 2), (b"placed", [], 2), (["full"], (3, 4)), ({}, (3, 4)),
                 (True, (3, 4)), (None, (3, 4)), (b"full", (3, 4)), ("fuller", (3, 4)), ("full", (3, 4), [])]
        wrong += [value for value in no_integers()]
        wrong += [(value, [], 2) for value in no_integers()] + [(value, (3, 4)) for value in no_integers()]
        wrong += [("placed", value, 2) for value in no_integers() if not isinstance(value, list)]
        wrong += [("full", value) for value in no_integers() if not isinstance(value, tuple)]
        for number, answer in enumerate(wrong):
            with self.subTest(number):
                self.assert_wrong(-1, [2], answer)
                self.assert_wrong(-1, [3, 4], answer)

    def test_impossible_moves(self):
        self.assert_wrong(0, [0], ("placed", [(0, 1)], 0))
        self.assert_wrong(1, [0], ("placed", [(1, 2), (0, 2)], 0))
        self.assert_wrong(2, [2], ("placed", [(1, 2), (0, 1), (9, 9)], 2))
        self.assert_wrong(1, [2], ("placed", [(1, 2), (2, 3)], None))
        for value in no_integers():
            if not isinstance(value, tuple):
                self.assert_wrong(1, [1], ("placed", [(1, 2), value], 1))
            self.assert_wrong(1, [1], ("placed", [(1, 2), (value, 1)], 1))
            self.assert_wrong(1, [1], ("placed", [(1, 2), (0, value)], 1))

    def test_bools_in_moves(self):
        self.assert_wrong(0, [1], ("placed", [(True, 2)], 1))
        self.assert_wrong(1, [0], ("placed", [(1, 2), (False, 1)], 0))
        self.assert_wrong(1, [0], ("placed", [(1, 2), (0, True)], 0))
        self.assert_wrong(2, [1], ("placed", [(1, 2), (0, 1), (0, False)], 1))

    def test_slot_that_is_not_allowed(self):
        self.assert_wrong(0, [0, 1], ("placed", [], 2))
        self.assert_wrong(1, [0, 3], ("placed", [(1, 2)], 1))
        for value in [-1, -4, 6, 60, 10 ** 5000, *no_integers()]:
            self.assert_wrong(0, [2], ("placed", [], value))
            self.assert_wrong(1, [0, 1, 2, 3, 4, 5], ("placed", [(1, 2)], value))

    def test_slot_that_is_not_free(self):
        for slot in (0, 1, 3, 4, 5):
            self.assert_wrong(0, [0, 1, 2, 3, 4, 5], ("placed", [], slot))
        self.assert_wrong(1, [0, 1, 2], ("placed", [(1, 2)], 2))
        self.assert_wrong(2, [0, 1, 2], ("placed", [(1, 2), (0, 1)], 1))

    def test_bools_are_no_slots(self):
        self.assertIsNone(check_insert(self.book, self.start, [1], ("placed", [(1, 2)], 1)))
        self.assert_wrong(1, [1], ("placed", [(1, 2)], True))
        self.assertIsNone(check_insert(self.book, self.start, [0], ("placed", [(1, 2), (0, 1)], 0)))
        self.assert_wrong(2, [0], ("placed", [(1, 2), (0, 1)], False))

    def test_no_tight_set(self):
        for value in [-1, 2, 6, 60, 10 ** 5000, *no_integers()]:
            self.assert_wrong(0, [3], ("full", (value,)))
            self.assert_wrong(2, [3], ("full", (3, 4, value, 4)))
        self.assert_wrong(2, [3], ("full", (3, 4, 3)))
        self.assert_wrong(1 + 0, [3], ("full", (3,)))
        self.assert_wrong(2 + 0, [3], ("full", (4, 5)))
        self.assert_wrong(2 + 1, [5], ("full", (5, 4)))
        self.assert_wrong(3 + 2, [3], ("full", (3, 4, 0)))

    def test_bools_in_the_set(self):
        book = Book(3, [[0, 1], [0, 1]])
        self.assertIsNone(check_insert(book, (0, 1), [0, 1], ("full", (1, 0))))
        for index, slots in ((0, (True, 0)), (1, (1, False)), (1, (0, True)), (0, (False, True))):
            self.assert_raises(NoCertificate, "index", index, check_insert, book, (0, 1), [0, 1], ("full", slots))

    def test_allowed_slot_outside_of_the_set(self):
        self.assert_wrong(2 * 2 + 0, [2], ("full", (3, 4)))
        self.assert_wrong(2 * 2 + 2, [3, 4, 5], ("full", (4, 3)))
        self.assert_wrong(2 * 2 + 0, [0, 3, 4, 5], ("full", (3, 4)))
        self.assert_wrong(2 * 3 + 0, [1, 3], ("full", (3, 4, 5)))
        self.assert_wrong(2 * 3 + 0, [0, 1, 5], ("full", (5, 4, 3)))
        self.assert_wrong(0, [3], ("full", ()))
        self.assert_wrong(2 * 1 + 0, [3, 5], ("full", (5,)))

    def test_examples_of_the_point(self):
        self.assertIsNone(check_insert(BOOK, START, [2, 3], ("placed", [], 2)))
        self.assert_raises(NoCertificate, "index", 3, check_insert, BOOK, START, [3], ("full", (3, 0)))

    def test_no_list_of_slots(self):
        for number, allowed in enumerate(no_lists_of_slots()):
            with self.subTest(number):
                for answer in (("placed", [], 2), ("full", (3,)), None, ("full", (9,)), ("placed", [None], 2)):
                    self.assert_raises(NoBook, "index", 3, check_insert, BOOK, START, allowed, answer)

    def test_no_timetable(self):
        for allowed, answer in (([2], ("placed", [], 2)), ([3], ("full", (3,))), ([], ("full", ())), (None, None),
                                ([3], None), ([2], ("placed", [(9, 9)], 2)), ([3], ("full", (9,)))):
            self.assert_no_timetables(check_insert, allowed, answer)
