"""[12], [13], [14] Open slots, frozen appointments, tight sets, and slots made free."""

from itertools import permutations

from reslot.books import Book
from reslot.errors import Frozen, NoCertificate, NoSlot, NoTimetable
from reslot.moves import reached
from reslot.opening import check_tight, frozen, open_slots, vacated
from tests.helper import (BOOK, START, Raises, all_timetables, corridor, distances, mixed_books, no_integers, played,
                          small_timetables)

TIGHT_BOOK = Book(6, [[0, 1], [0, 1], [1, 2], [3], [3, 4, 5]])
TIGHT_START = (0, 1, 2, 3, 4)


def tight_sets_of(size, rows, timetable):
    """Every tight set, found from the definition."""
    found = []
    for number in range(1 << size):
        slots = {slot for slot in range(size) if number >> slot & 1}
        if slots <= set(timetable) and all(slot not in slots or set(rows[k]) <= slots
                                           for k, slot in enumerate(timetable)):
            found.append(slots)
    return found


class Opening(Raises):
    def assert_opening(self, book, timetable, opened, fixed):
        self.assertEqual(open_slots(book, timetable), opened)
        self.assertIs(type(open_slots(book, timetable)), list)
        self.assertEqual(frozen(book, timetable), fixed)
        self.assertIs(type(frozen(book, timetable)), tuple)

    def test_against_what_is_reached(self):
        for book, rows, size, timetable in small_timetables(12):
            found = reached(book, timetable)
            opened = [slot for slot in range(size) if any(slot not in other for other in found)]
            fixed = tuple(k for k, slot in enumerate(timetable) if all(other[k] == slot for other in found))
            self.assert_opening(book, timetable, opened, fixed)

    def test_against_a_plain_search(self):
        for book, rows, size, timetable in small_timetables(12):
            found = distances(size, rows, timetable)
            self.assertEqual(open_slots(book, timetable), [s for s in range(size) if any(s not in t for t in found)])

    def test_the_same_for_all_timetables(self):
        for book, rows, size, timetable in mixed_books(13, 150):
            answers = [(open_slots(book, other), frozen(book, other)) for other in all_timetables(size, rows)]
            self.assertEqual(answers, answers[:1] * len(answers))

    def test_no_free_slot(self):
        self.assert_opening(Book(2, [[0, 1], [0, 1]]), (1, 0), [], (0, 1))
        self.assert_opening(Book(60, [list(range(60))] * 60), tuple(range(60)), [], tuple(range(60)))

    def test_all_slots_free(self):
        self.assert_opening(Book(3, []), (), [0, 1, 2], ())
        self.assert_opening(Book(60, []), (), list(range(60)), ())

    def test_one_chain_of_sixty_slots(self):
        book, _, _, start = corridor(60)
        self.assert_opening(book, start, list(range(60)), ())
        backwards = Book(60, [[k - 1, k] for k in range(1, 60)])
        self.assert_opening(backwards, tuple(range(1, 60)), list(range(60)), ())

    def test_sixty_slots_half_of_them_closed(self):
        rows = [[k, (k + 1) % 30] for k in range(30)] + [[k, k + 1] for k in range(30, 59)]
        book = Book(60, [sorted(row) for row in rows])
        self.assert_opening(book, tuple(range(59)), list(range(30, 60)), tuple(range(30)))

    def test_slots_that_no_appointment_may_use(self):
        self.assert_opening(Book(4, [[1]]), (1,), [0, 2, 3], (0,))

    def test_order_of_slots_and_appointments(self):
        book = Book(6, [[4], [0, 5], [3], [1, 5]])
        self.assert_opening(book, (4, 5, 3, 1), [0, 1, 2, 5], (0, 2))
        self.assert_opening(book, (4, 0, 3, 5), [0, 1, 2, 5], (0, 2))

    def test_no_timetable(self):
        self.assert_no_timetables(open_slots)
        self.assert_no_timetables(frozen)


class CheckTight(Raises):
    def assert_not_tight(self, index, slots, book=TIGHT_BOOK, timetable=TIGHT_START):
        self.assert_raises(NoCertificate, "index", index, check_tight, book, timetable, slots)

    def test_every_small_set(self):
        for book, rows, size, timetable in small_timetables(12):
            tight = tight_sets_of(size, rows, timetable)
            for number in range(1 << size):
                slots = tuple(slot for slot in range(size) if number >> slot & 1)
                if set(slots) in tight:
                    self.assertIsNone(check_tight(book, timetable, slots))
                    self.assertIsNone(check_tight(book, timetable, slots[::-1]))
                    continue
                wrong = [k for k, slot in enumerate(slots) if slot not in timetable]
                if wrong:
                    self.assert_not_tight(wrong[0], slots, book, timetable)
                    continue
                leaving = [k for k, slot in enumerate(slots) if not set(rows[timetable.index(slot)]) <= set(slots)]
                self.assert_not_tight(len(slots) + leaving[0], slots, book, timetable)

    def test_all_closed_slots_are_the_greatest(self):
        for book, rows, size, timetable in small_timetables(12):
            closed = set(range(size)) - set(open_slots(book, timetable))
            self.assertIsNone(check_tight(book, timetable, tuple(closed)))
            for slots in tight_sets_of(size, rows, timetable):
                self.assertLessEqual(slots, closed)

    def test_any_order(self):
        for slots in permutations((0, 1, 2, 3)):
            self.assertIsNone(check_tight(TIGHT_BOOK, TIGHT_START, slots))
        for slots in ((), (3,), (0, 1), (1, 0), (3, 1, 0), (1, 2, 0)):
            self.assertIsNone(check_tight(TIGHT_BOOK, TIGHT_START, slots))

    def test_sixty_slots(self):
        book, start = Book(60, [list(range(60))] * 60), tuple(range(60))
        self.assertIsNone(check_tight(book, start, start))
        self.assertIsNone(check_tight(book, start, start[::-1]))
        self.assertIsNone(check_tight(book, start, ()))
        self.assert_not_tight(59, start[:59], book, start)

    def test_no_tuple(self):
        for value in [1, [0, 1], *no_integers()]:
            if not isinstance(value, tuple):
                with self.subTest(type(value)):
                    self.assert_not_tight(-1, value)

    def test_first_item_that_is_no_occupied_slot(self):
        for value in [-1, -2, 5, 6, 7, 60, 10 ** 5000, *no_integers()]:
            with self.subTest(type(value)):
                self.assert_not_tight(0, (value,))
                self.assert_not_tight(0, (value, 0, 0, None))
                self.assert_not_tight(2, (3, 4, value, 9))

    def test_repeated_item(self):
        self.assert_not_tight(1, (3, 3))
        self.assert_not_tight(2, (0, 1, 0))
        self.assert_not_tight(2, (2, 4, 4, 5))

    def test_first_slot_whose_appointment_may_leave(self):
        self.assert_not_tight(1 + 0, (4,))
        self.assert_not_tight(1 + 0, (0,))
        self.assert_not_tight(2 + 1, (3, 0))
        self.assert_not_tight(2 + 0, (4, 3))
        self.assert_not_tight(3 + 2, (0, 1, 4))
        self.assert_not_tight(3 + 0, (2, 0, 4))
        self.assert_not_tight(2 + 0, (1, 2))

    def test_wrong_item_goes_before_a_slot_to_leave(self):
        self.assert_not_tight(1, (4, 5))
        self.assert_not_tight(2, (4, 3, 3))

    def test_no_timetable(self):
        self.assert_no_timetables(check_tight, ())
        self.assert_no_timetables(check_tight, (3,))

    def test_no_timetable_goes_first(self):
        for slots in (None, [3], (9,), (0,), (None,)):
            self.assert_no_timetables(check_tight, slots)


class Vacated(Raises):
    def assert_frozen(self, closed, book, timetable, slot):
        self.assert_raises(Frozen, "slots", closed, vacated, book, timetable, slot)

    def test_against_a_plain_search(self):
        for book, rows, size, timetable in small_timetables(12):
            found = distances(size, rows, timetable)
            closed = tuple(slot for slot in range(size) if all(slot in other for other in found))
            for slot in range(size):
                if slot in closed:
                    self.assert_frozen(closed, book, timetable, slot)
                    continue
                steps = vacated(book, timetable, slot)
                self.assertIs(type(steps), list)
                self.assertEqual({type(step) for step in steps}, {tuple} if steps else set())
                self.assertNotIn(slot, played(size, rows, timetable, steps))
                self.assertEqual(len(steps), min(found[other] for other in found if slot not in other))
                self.assertEqual(len({appointment for appointment, _ in steps}), len(steps))

    def test_free_slot(self):
        self.assertEqual(vacated(BOOK, START, 2), [])
        self.assertEqual(vacated(Book(60, []), (), 59), [])

    def test_chain_of_sixty_slots(self):
        book, _, _, start = corridor(60)
        for slot in (0, 30, 58):
            self.assertEqual(vacated(book, start, slot), [(k, k + 1) for k in range(58, slot - 1, -1)])

    def test_nearest_of_several_free_slots(self):
        book = Book(7, [[0, 1, 2], [1, 3], [2, 4], [3, 6]])
        self.assertEqual(vacated(book, (0, 1, 2, 3), 0), [(2, 4), (0, 2)])

    def test_no_slot(self):
        for value in [-1, -4, 4, 5, 60, 10 ** 5000, *no_integers()]:
            with self.subTest(type(value)):
                self.assert_keeps(NoSlot, "slot", value, vacated, BOOK, START, value)

    def test_closed_slot(self):
        self.assert_frozen((0, 1, 2, 3), TIGHT_BOOK, TIGHT_START, 2)
        self.assert_frozen((0, 1, 2, 3), TIGHT_BOOK, (1, 0, 2, 3, 5), 3)
        self.assert_frozen((3,), BOOK, START, 3)
        self.assert_frozen(tuple(range(60)), Book(60, [[k] for k in range(60)]), tuple(range(60)), 59)

    def test_no_timetable(self):
        self.assert_no_timetables(vacated, 2)

    def test_no_timetable_goes_before_no_slot_and_frozen(self):
        for slot in (-1, None, [], 3):
            self.assert_no_timetables(vacated, slot)
        self.assert_raises(NoTimetable, "index", 1, vacated, TIGHT_BOOK, (0, 0, 2, 3, 4), 0)

    def test_no_slot_goes_before_frozen(self):
        book = Book(2, [[0, 1], [0, 1]])
        for value in (-1, 2, True, False, None, "0"):
            self.assert_keeps(NoSlot, "slot", value, vacated, book, (0, 1), value)
