"""[50], [51], [52], [53] Minimal tight sets, cancellations, and the fewest of them that let every appointment move."""

from itertools import combinations, permutations
from random import Random

from reslot.books import Book
from reslot.errors import NoAppointment, NoCertificate
from reslot.opening import check_tight, frozen
from reslot.releasing import cancelled, check_cancelled, fewest_cancelled, tight_sets
from tests.helper import (BOOK, START, Odd, Raises, all_timetables, corridor, long_books, mixed_books, no_integers,
                          opened_slots, placed_book, small_timetables)

# The book of the point: (0, 1) and (3,) are minimal, (0, 1, 2) and the unions are tight, too.
FULL_ROWS = [[0, 1], [0, 1], [1, 2], [3]]
FULL = Book(4, FULL_ROWS)
FULL_START = (0, 1, 2, 3)


def tight_of(rows, timetable):
    """Every tight set but the empty one, as ascending tuples, found from the definition."""
    found = []
    for many in range(1, len(timetable) + 1):
        for slots in combinations(sorted(timetable), many):
            if all(set(rows[timetable.index(slot)]) <= set(slots) for slot in slots):
                found.append(slots)
    return found


def minimal_of(rows, timetable):
    tight = tight_of(rows, timetable)
    return sorted(slots for slots in tight if not any(set(other) < set(slots) for other in tight))


def spreading(rows, timetable):
    """For each closed slot the smallest tight set with it, by following the appointments; for books of any size."""
    owners = {slot: k for k, slot in enumerate(timetable)}
    found = {}
    for first in set(timetable) - opened_slots(60, rows, timetable):
        inside, waiting = {first}, [first]
        while waiting:
            for slot in rows[owners[waiting.pop()]]:
                if slot not in inside:
                    inside.add(slot)
                    waiting.append(slot)
        found[first] = tuple(sorted(inside))
    return found


def full_books(seed):
    """(name, book, rows, size, timetable) for books of 60 slots in which much is frozen."""
    random = Random(seed)
    yield "single slots", *placed_book([[k] for k in range(60)], range(60))
    yield "one ring", *placed_book([sorted({k, (k + 1) % 60}) for k in range(60)], range(60))
    yield "one ring, backwards", *placed_book([sorted({k, (k - 1) % 60}) for k in range(60)], range(60))
    yield "all slots", *placed_book([list(range(60))] * 60, range(60))
    yield "rings of three", *placed_book([sorted({k, k - k % 3 + (k + 1) % 3}) for k in range(60)], range(60))
    yield "pairs", *placed_book([[k - k % 2, k - k % 2 + 1] for k in range(60)], range(60))
    yield "tail to the end", *placed_book([[k, min(k + 1, 59)][:1 + (k < 59)] for k in range(60)], range(60))
    yield "tail to the beginning", *placed_book([[0], *([k - 1, k] for k in range(1, 60))], range(60))
    rows = [[0], *([k - 1, k] for k in range(1, 30)), *([k, k + 1] for k in range(30, 59)), [59]]
    yield "two tails", *placed_book(rows, range(60))
    rows = [[0], *([k - 1, k, k + 1] for k in range(1, 59)), [59]]
    yield "tail with a way to both ends", *placed_book(rows, range(60))
    rows = [sorted({k, (k + 1) % 5}) if k < 5 else [k - 5, k] for k in range(60)]
    yield "ring with tails", *placed_book(rows, range(60))
    yield "all to one", *placed_book([[0], *([0, k] for k in range(1, 60))], range(60))
    yield "one to all", *placed_book([list(range(60)), *([k] for k in range(1, 60))], range(60))
    rows = [sorted({k, (k + 1) % 30}) for k in range(30)] + [[k - 1, k] for k in range(31, 60)]
    yield "half open", *placed_book(rows, [*range(30), *range(31, 60)])
    for free in (0, 0, 0, 0, 1, 5):
        for extra in (1, 1, 2, 3):
            start = random.sample(range(60), 60 - free)
            frozen_ones = start if free == 0 else start[:40]
            rows = [sorted({slot, *random.sample(frozen_ones if slot in frozen_ones else range(60),
                                                 random.randint(0, extra))}) for slot in start]
            yield f"random, {free} free, {extra} more", *placed_book(rows, start)


class TightSets(Raises):
    def assert_sets(self, book, timetable, expected):
        found = tight_sets(book, timetable)
        self.assertEqual(found, expected)
        self.assertEqual([type(found), *map(type, found)], [list] + [tuple] * len(found))
        self.assertEqual(found == [], frozen(book, timetable) == ())
        for slots in found:
            self.assertIsNone(check_tight(book, timetable, slots))

    def test_against_all_sets(self):
        for book, rows, size, timetable in small_timetables(50):
            self.assert_sets(book, timetable, minimal_of(rows, timetable))

    def test_full_books_against_all_sets(self):
        random = Random(51)
        many = []
        for _ in range(250):
            size = random.randint(4, 8)
            start = random.sample(range(size), size - random.choice((0, 0, 0, 1)))
            rows = [sorted({slot, *random.sample(start, random.choice((0, 1, 1, 2)))}) for slot in start]
            expected = minimal_of(rows, tuple(start))
            many.append(len(expected))
            self.assert_sets(Book(size, rows), tuple(start), expected)
        self.assertGreater(len(set(many)), 3)

    def test_the_same_for_every_timetable(self):
        for book, rows, size, start in mixed_books(52, 200):
            found = [tight_sets(book, timetable) for timetable in all_timetables(size, rows)]
            self.assertEqual(found, found[:1] * len(found))

    def test_no_two_have_a_slot_in_common(self):
        for name, book, rows, size, start in full_books(53):
            slots = [slot for slots in tight_sets(book, start) for slot in slots]
            self.assertEqual(len(slots), len(set(slots)))

    def test_books_of_sixty_slots(self):
        for name, book, rows, size, start in full_books(53):
            with self.subTest(name):
                around = spreading(rows, start)
                minimal = {slots for slots in around.values() if all(around[slot] == slots for slot in slots)}
                self.assert_sets(book, start, sorted(minimal))

    def test_known_sets_of_sixty_slots(self):
        sets = {name: tight_sets(book, start) for name, book, rows, size, start in full_books(53)}
        self.assertEqual(sets["single slots"], [(k,) for k in range(60)])
        self.assertEqual(sets["one ring"], [tuple(range(60))])
        self.assertEqual(sets["one ring, backwards"], [tuple(range(60))])
        self.assertEqual(sets["all slots"], [tuple(range(60))])
        self.assertEqual(sets["rings of three"], [(k, k + 1, k + 2) for k in range(0, 60, 3)])
        self.assertEqual(sets["pairs"], [(k, k + 1) for k in range(0, 60, 2)])
        self.assertEqual(sets["tail to the end"], [(59,)])
        self.assertEqual(sets["tail to the beginning"], [(0,)])
        self.assertEqual(sets["two tails"], [(0,), (59,)])
        self.assertEqual(sets["tail with a way to both ends"], [(0,), (59,)])
        self.assertEqual(sets["ring with tails"], [(0, 1, 2, 3, 4)])
        self.assertEqual(sets["all to one"], [(0,)])
        self.assertEqual(sets["one to all"], [(k,) for k in range(1, 60)])
        self.assertEqual(sets["half open"], [tuple(range(30))])

    def test_empty_exactly_if_nothing_is_frozen(self):
        for name, book, rows, size, start in long_books(54):
            self.assertEqual(tight_sets(book, start) == [], frozen(book, start) == ())
        self.assertEqual(tight_sets(Book(3, []), ()), [])
        self.assertEqual(tight_sets(Book(3, [[0, 1], [1, 2]]), (0, 1)), [])
        self.assertEqual(tight_sets(*corridor(60)[::3]), [])

    def test_no_timetable(self):
        self.assert_no_timetables(tight_sets)


class Cancelled(Raises):
    def assert_cancelled(self, book, rows, size, timetable, appointments):
        answer = cancelled(book, timetable, appointments)
        self.assertEqual([type(answer), *map(type, answer)], [tuple, Book, tuple])
        kept = [k for k in range(len(rows)) if k not in appointments]
        left, later = answer
        self.assertEqual(left.size(), size)
        self.assertEqual([left.allowed(k) for k in range(len(left))], [rows[k] for k in kept])
        self.assertTrue(left == Book(size, [rows[k] for k in kept]))
        self.assertEqual(later, tuple(timetable[k] for k in kept))

    def test_every_set_of_small_books(self):
        random = Random(55)
        for book, rows, size, timetable in small_timetables(55):
            for many in range(len(rows) + 1):
                for appointments in list(combinations(range(len(rows)), many))[:12]:
                    self.assert_cancelled(book, rows, size, timetable, tuple(random.sample(appointments, many)))

    def test_none_some_and_all_of_sixty(self):
        random = Random(56)
        for name, book, rows, size, start in full_books(56):
            for many in (0, 1, 30, len(rows)):
                self.assert_cancelled(book, rows, size, start, tuple(random.sample(range(len(rows)), many)))

    def test_any_order(self):
        rows = [BOOK.allowed(k) for k in range(3)]
        for many in range(4):
            for appointments in permutations(range(3), many):
                self.assert_cancelled(BOOK, rows, 4, START, appointments)
        self.assertTrue(cancelled(BOOK, START, ()) == (BOOK, START))
        self.assertTrue(cancelled(BOOK, START, (2, 0, 1)) == (Book(4, []), ()))
        self.assertTrue(cancelled(Book(3, []), (), ()) == (Book(3, []), ()))

    def test_no_tuple(self):
        for value in [0, 5, -1, [0], [], [0, 1], {0: 1}, {0, 1}, "0", range(2), *no_integers()]:
            if not isinstance(value, tuple):
                with self.subTest(type(value)):
                    self.assert_keeps(NoAppointment, "appointment", value, cancelled, BOOK, START, value)

    def test_first_item_that_is_no_appointment(self):
        for value in [-1, -3, 3, 4, 60, 10 ** 5000, [0], [], {}, {0: 1}, *no_integers()]:
            with self.subTest(type(value)):
                self.assert_keeps(NoAppointment, "appointment", value, cancelled, BOOK, START, (value,))
                self.assert_keeps(NoAppointment, "appointment", value, cancelled, BOOK, START, (2, 0, value, 9, None))
                self.assert_keeps(NoAppointment, "appointment", value, cancelled, BOOK, START, (value, 0, 0))
        self.assert_keeps(NoAppointment, "appointment", 0, cancelled, Book(3, []), (), (0,))

    def test_item_that_repeats_an_earlier_one(self):
        self.assert_raises(NoAppointment, "appointment", 1, cancelled, BOOK, START, (1, 1))
        self.assert_raises(NoAppointment, "appointment", 0, cancelled, BOOK, START, (0, 1, 0, 9))
        self.assert_raises(NoAppointment, "appointment", 2, cancelled, BOOK, START, (2, 1, 2, 1))
        self.assert_raises(NoAppointment, "appointment", True, cancelled, BOOK, START, (1, True))
        self.assert_raises(NoAppointment, "appointment", False, cancelled, BOOK, START, (0, False))

    def test_no_timetable(self):
        for appointments in ((), (0,), [0], None, (9,), (0, 0), Odd()):
            self.assert_no_timetables(cancelled, appointments)


class FewestCancelled(Raises):
    def assert_fewest(self, book, timetable):
        answer = fewest_cancelled(book, timetable)
        self.assertEqual([type(answer), *map(type, answer)], [tuple, tuple, list])
        gone, sets = answer
        self.assertEqual(list(gone), sorted(set(gone)))
        self.assertEqual(sets, tight_sets(book, timetable))
        self.assertEqual(len(gone), len(sets))
        self.assertEqual(frozen(*cancelled(book, timetable, gone)), ())
        self.assertIsNone(check_cancelled(book, timetable, answer))
        # Each set needs a cancellation, and gets one.
        self.assertEqual([len(set(slots) & {timetable[k] for k in gone}) for slots in sets], [1] * len(sets))
        return gone

    def test_no_smaller_set_has_this_effect(self):
        for book, rows, size, timetable in small_timetables(57):
            many = len(self.assert_fewest(book, timetable))
            for fewer in combinations(range(len(rows)), max(many - 1, 0)):
                if many:
                    self.assertNotEqual(frozen(*cancelled(book, timetable, fewer)), ())

    def test_full_books_of_seven_slots(self):
        random = Random(58)
        for _ in range(100):
            start = random.sample(range(7), 7)
            rows = [sorted({slot, *random.sample(start, random.choice((0, 1, 1, 2)))}) for slot in start]
            book = Book(7, rows)
            many = len(self.assert_fewest(book, tuple(start)))
            for fewer in combinations(range(7), many - 1):
                self.assertNotEqual(frozen(*cancelled(book, tuple(start), fewer)), ())

    def test_books_of_sixty_slots(self):
        for name, book, rows, size, start in [*full_books(59), *long_books(59, fewest_free=0)]:
            with self.subTest(name):
                self.assert_fewest(book, start)

    def test_nothing_is_frozen(self):
        self.assertEqual(fewest_cancelled(Book(3, [[0, 1], [1, 2]]), (0, 1)), ((), []))
        self.assertEqual(fewest_cancelled(Book(3, []), ()), ((), []))
        self.assertEqual(fewest_cancelled(*corridor(60)[::3]), ((), []))

    def test_example_of_the_point(self):
        gone, sets = fewest_cancelled(FULL, FULL_START)
        self.assertIn(gone, ((0, 3), (1, 3)))
        self.assertEqual(sets, [(0, 1), (3,)])

    def test_appointments_in_ascending_order(self):
        book = Book(60, [[59 - k] for k in range(60)])
        expected = (tuple(range(60)), [(k,) for k in range(60)])
        self.assertEqual(fewest_cancelled(book, tuple(range(59, -1, -1))), expected)

    def test_no_timetable(self):
        self.assert_no_timetables(fewest_cancelled)


class CheckCancelled(Raises):
    def assert_wrong(self, index, answer, book=FULL, timetable=FULL_START):
        self.assert_raises(NoCertificate, "index", index, check_cancelled, book, timetable, answer)

    def assert_right(self, answer, book=FULL, timetable=FULL_START):
        self.assertIsNone(check_cancelled(book, timetable, answer))

    def test_every_answer_of_one_book(self):
        """[53] All tuples of appointments with all lists of at most two sets, against the words of the definition."""
        tight = [(), *tight_of(FULL_ROWS, FULL_START)]
        sets = [slots for many in range(4) for slots in permutations(range(4), many)]
        lists = [[], *([slots] for slots in sets), *([a, b] for a in tight for b in sets),
                 *([(3,), (1, 0), slots] for slots in ((2,), (3,), ()))]
        right = 0
        for many in range(4):
            for appointments in permutations(range(4), many):
                stays = frozen(*cancelled(FULL, FULL_START, appointments)) != ()
                for given in lists:
                    index = many if stays else self.number(tight, many, given)
                    if index is None:
                        right += 1
                        self.assert_right((appointments, given))
                    else:
                        self.assert_wrong(index, (appointments, given))
        self.assertGreater(right, 5)

    def number(self, tight, many, sets):
        """The value of NoCertificate for the list of sets, from the definition."""
        for index, slots in enumerate(sets):
            earlier = [slot for before in sets[:index] for slot in before]
            if tuple(sorted(slots)) not in tight or not slots or set(slots) & set(earlier):
                return many + 1 + index
        return None if len(sets) == many else many + 1 + len(sets)

    def test_correct_answers(self):
        for answer in (((3, 1), [(3,), (1, 0)]), ((0, 3), [(0, 1), (3,)]), ((3, 0), [(3,), (0, 1)]),
                       ((1, 3), [(2, 0, 1), (3,)]), ((1, 3), [(3,), (1, 2, 0)])):
            self.assert_right(answer)
        self.assert_right(((), []), Book(3, [[0, 1], [1, 2]]), (0, 1))
        self.assert_right(((), []), Book(3, []), ())
        self.assert_right((tuple(range(59, -1, -1)), [(k,) for k in range(60)]), Book(60, [[k] for k in range(60)]),
                          tuple(range(60)))
        self.assert_right(((59,), [tuple(range(59, -1, -1))]), Book(60, [list(range(60))] * 60), tuple(range(60)))

    def test_own_answers(self):
        for book, rows, size, timetable in small_timetables(60):
            gone, sets = fewest_cancelled(book, timetable)
            self.assert_right((gone[::-1], [slots[::-1] for slots in sets[::-1]]), book, timetable)

    def test_other_kinds(self):
        gone, sets = (0, 3), [(0, 1), (3,)]
        wrong = [1, gone, sets, (), (gone,), (sets,), (gone, sets, sets), (gone, sets, ()), [gone, sets], (sets, gone),
                 (list(gone), sets), (gone, tuple(sets)), (None, sets), (gone, None), (0, sets), (gone, 2), {0: 1},
                 ({0, 3}, sets), (gone, {}), (gone, {0: (0, 1), 1: (3,)}), ("gone", sets), (gone, "sets"),
                 (True, sets), (gone, True), ("cancelled", gone, sets), ((), ()), ([], [])]
        wrong += no_integers()
        wrong += [(value, sets) for value in no_integers() if not isinstance(value, tuple)]
        wrong += [(gone, value) for value in no_integers() if not isinstance(value, list)]
        for number, answer in enumerate(wrong):
            with self.subTest(number):
                self.assert_wrong(-1, answer)

    def test_wrong_appointments(self):
        for sets in ([(0, 1), (3,)], [], [None], [(9,)]):
            for value in [-1, -4, 4, 5, 60, 10 ** 5000, *no_integers()]:
                self.assert_wrong(0, ((value,), sets))
                self.assert_wrong(2, ((0, 3, value, 9, 0), sets))
                self.assert_wrong(0, ((value, 0, 3), sets))
            self.assert_wrong(1, ((0, 0), sets))
            self.assert_wrong(2, ((3, 0, 3), sets))
            self.assert_wrong(2, ((3, 0, False), sets))
            self.assert_wrong(2, ((3, 1, True), sets))
        self.assert_wrong(1, ((3, True), [(0, 1), (3,)]))
        self.assert_wrong(0, ((False, 3), [(0, 1), (3,)]))

    def test_others_that_are_frozen(self):
        for sets in ([(0, 1), (3,)], [(0, 1)], [], [None], [(9,)]):
            self.assert_wrong(0, ((), sets))
            self.assert_wrong(1, ((0,), sets))
            self.assert_wrong(1, ((3,), sets))
            self.assert_wrong(2, ((0, 1), sets))
            self.assert_wrong(2, ((2, 3), sets))
            self.assert_wrong(3, ((1, 0, 2), sets))

    def test_only_other_appointments_count(self):
        self.assert_right(((0, 1), [(1,), (0,)]), Book(2, [[0], [1]]), (0, 1))
        self.assert_wrong(1, ((0,), [(0,)]), Book(2, [[0], [1]]), (0, 1))

    def test_items_that_are_no_tight_sets(self):
        others = [value for value in no_integers() if not isinstance(value, tuple)]
        others += [(2,), (1, 2), (0,), (0, 2, 1, 0), (3, 3), (4,), (-1,), (0, 1, 60), (3, 9), [3], [0, 1], 3]
        for value in others:
            self.assert_wrong(3 + 0, ((0, 3), [value, (3,)]))
            self.assert_wrong(3 + 0, ((0, 3), [value, None]))
            self.assert_wrong(3 + 1, ((0, 3), [(0, 1), value]))
            self.assert_wrong(3 + 2, ((0, 3), [(0, 1), (3,), value]))
        for value in no_integers():
            self.assert_wrong(3 + 0, ((0, 3), [(value,), (3,)]))
            self.assert_wrong(3 + 1, ((0, 3), [(3,), (0, value)]))
            self.assert_wrong(3 + 1, ((0, 3), [(3,), (value, 0, 1)]))

    def test_bools_in_the_place_of_slots(self):
        for slots in ((False, 1), (0, True), (False, True), (True, 0), (1, False)):
            self.assert_wrong(3 + 0, ((0, 3), [slots, (3,)]))
            self.assert_wrong(3 + 1, ((0, 3), [(3,), slots]))
        self.assert_wrong(2 + 0, ((0,), [(False,)]), Book(1, [[0]]), (0,))

    def test_empty_sets(self):
        self.assert_wrong(3 + 0, ((0, 3), [(), (3,)]))
        self.assert_wrong(3 + 1, ((0, 3), [(3,), ()]))
        self.assert_wrong(3 + 2, ((0, 3), [(3,), (0, 1), ()]))
        self.assert_wrong(1 + 0, ((), [()]), Book(3, []), ())

    def test_sets_with_a_slot_in_common(self):
        self.assert_wrong(3 + 1, ((0, 3), [(3,), (3,)]))
        self.assert_wrong(3 + 1, ((0, 3), [(0, 1), (2, 1, 0)]))
        self.assert_wrong(3 + 1, ((0, 3), [(3, 0, 1), (1, 0)]))
        self.assert_wrong(3 + 2, ((0, 3), [(3,), (0, 1), (1, 0)]))
        self.assert_wrong(3 + 1, ((0, 3), [(0, 1), (0, 1), (3, 3)]))

    def test_another_number_of_sets(self):
        self.assert_wrong(3 + 1, ((0, 3), [(0, 1, 2)]))
        self.assert_wrong(3 + 1, ((0, 3), [(0, 1, 2, 3)]))
        self.assert_wrong(3 + 0, ((0, 3), []))
        self.assert_wrong(4 + 2, ((0, 3, 1), [(0, 1), (3,)]))
        self.assert_wrong(5 + 2, ((0, 3, 1, 2), [(0, 1), (3,)]))
        self.assert_wrong(2 + 0, ((0,), []), Book(3, [[0, 1], [1, 2]]), (0, 1))

    def test_tight_before_the_cancellations(self):
        # After them, the set would be tight no more; before them, (2,) is not.
        self.assert_wrong(3 + 1, ((1, 3), [(3,), (2,)]))
        self.assert_right(((1, 3), [(3,), (0, 1, 2)]))

    def test_no_timetable(self):
        for answer in (None, ((0,), [(0,)]), ((), []), [], Odd()):
            self.assert_no_timetables(check_cancelled, answer)
