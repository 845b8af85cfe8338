"""[30], [31], [32] Wishes, timetables that fulfil them, and appointments with too few slots."""

from itertools import combinations, permutations, product
from random import Random

from reslot.books import Book, check_timetable
from reslot.errors import NoCertificate, NoTimetable, NoWish
from reslot.moves import reached
from reslot.plans import plan
from reslot.wishes import check_granted, granted
from tests.helper import (BOOK, NO_TIMETABLES, START, Odd, Raises, all_timetables, corridor, long_books, mixed_books,
                          no_integers, opened_slots, placed_book, small_books, small_timetables, wandered)

# Appointments 0 to 2 can move in the slots 0 to 3; 3 and 4 fill the slots 4 and 5 for ever; 5 may use a closed slot.
MIXED = Book(8, [[0, 1], [1, 2], [2, 3], [4, 5], [4, 5], [5, 6, 7]])
MIXED_START = (0, 1, 2, 4, 5, 6)


def possible_slots(size, rows, timetable, wishes):
    """The set of the possible slots of each appointment, found from the definition."""
    opened = opened_slots(size, rows, timetable)
    found = []
    for k, own in enumerate(timetable):
        free = own in opened
        if k in wishes:
            wish = wishes[k]
            fits = wish in opened and wish in rows[k] if free else wish == own
            found.append({wish} if fits else set())
        elif free:
            found.append({slot for slot in rows[k] if slot in opened and slot not in wishes.values()})
        else:
            found.append({own})
    return found


def fulfils(timetable, wishes):
    return all(timetable[k] == slot for k, slot in wishes.items())


def some_wishes(random, size, rows, found):
    """Wishes of many kinds: none, those of a reachable timetable, allowed ones, any ones."""
    many = random.randint(0, len(rows))
    chosen = random.sample(range(len(rows)), many)
    kind = random.randrange(4)
    if kind == 0:
        other = random.choice(found)
        return {k: other[k] for k in chosen}
    if kind == 1:
        return {k: random.randrange(size) for k in chosen}
    return {k: random.choice(rows[k]) for k in chosen}


def wrong_wishes():
    """(key, argument) for arguments that are no wishes of a book with 3 appointments and 4 slots."""
    for value in [1, [(0, 1)], ((0, 1),), [[0, 1]], range(3), *no_integers()]:
        if not isinstance(value, dict):
            yield None, value
    for key in (-1, -3, 3, 4, 60, 10 ** 5000, True, False, None, "", "0", "a text", (), (0,), (0, 1), b"0", int):
        yield key, {key: 1}
        yield key, {2: 3, 1: 0, key: 1} if key is not True else {2: 3, key: 1}
        yield key, {2: 3, key: -1}
        yield key, {2: 3, key: None, 0: 9}
    for value in [-1, -4, 4, 5, 60, 10 ** 5000, *no_integers()]:
        yield 0, {0: value}
        yield 1, {2: 0, 1: value, 0: value, 9: 9}


class Granted(Raises):
    def assert_answer(self, book, rows, size, timetable, wishes, found=None):
        """The answer is correct by the definition; found are the reachable timetables, where they are known."""
        answer = granted(book, timetable, wishes)
        self.assertIs(type(answer), tuple)
        if answer[0] == "granted":
            word, other = answer
            self.assertIsNone(check_timetable(book, other))
            self.assertTrue(fulfils(other, wishes))
            opened = opened_slots(size, rows, timetable)
            self.assertEqual([k for k, slot in enumerate(timetable) if slot not in opened and other[k] != slot], [])
            if found is not None:
                self.assertIn(other, found)
        else:
            word, appointments, slots = answer
            self.assertEqual((word, type(appointments), type(slots)), ("short", tuple, tuple))
            possible = possible_slots(size, rows, timetable, wishes)
            self.assertEqual(list(appointments), sorted(set(appointments) & set(range(len(rows)))))
            self.assertEqual(list(slots), sorted(set().union(*[possible[k] for k in appointments])))
            self.assertLess(len(slots), len(appointments))
            if found is not None:
                self.assertEqual([other for other in found if fulfils(other, wishes)], [])
        self.assertIsNone(check_granted(book, timetable, wishes, answer))
        return answer[0]

    def test_every_wish_in_small_books(self):
        for book, rows, size in small_books():
            if size > 3 or len(rows) > 2:
                continue
            for timetable in all_timetables(size, rows):
                found = reached(book, timetable)
                for slots in product([None, *range(size)], repeat=len(rows)):
                    wishes = {k: slot for k, slot in enumerate(slots) if slot is not None}
                    self.assert_answer(book, rows, size, timetable, wishes, found)

    def test_against_what_is_reached(self):
        random = Random(31)
        words = []
        for book, rows, size, timetable in small_timetables(31):
            found = reached(book, timetable, most=5000)
            for _ in range(6):
                wishes = some_wishes(random, size, rows, found)
                words.append(self.assert_answer(book, rows, size, timetable, wishes, found))
        self.assertGreater(words.count("granted"), 2000)
        self.assertGreater(words.count("short"), 2000)

    def test_books_with_few_free_slots(self):
        random = Random(32)
        words = []
        for book, rows, size, start in mixed_books(32, 400, most_slots=7, fewest_slots=4):
            found = reached(book, start, most=10000)
            for _ in range(4):
                wishes = some_wishes(random, size, rows, found)
                words.append(self.assert_answer(book, rows, size, start, wishes, found))
        self.assertGreater(min(words.count("granted"), words.count("short")), 300)

    def test_no_wishes(self):
        for book, rows, size, timetable in small_timetables(31):
            self.assertEqual(self.assert_answer(book, rows, size, timetable, {}), "granted")
        self.assertEqual(granted(Book(3, []), (), {}), ("granted", ()))
        full = Book(60, [list(range(60))] * 60)
        self.assertEqual(granted(full, tuple(range(60)), {}), ("granted", tuple(range(60))))

    def test_own_slots(self):
        for book, rows, size, timetable in small_timetables(31):
            self.assertEqual(granted(book, timetable, dict(enumerate(timetable))), ("granted", timetable))
            for k, slot in enumerate(timetable):
                self.assertEqual(self.assert_answer(book, rows, size, timetable, {k: slot}), "granted")

    def test_wishes_that_contradict_one_another(self):
        for k, m in permutations(range(3), 2):
            self.assertEqual(granted(Book(5, [list(range(5))] * 3), (0, 1, 2), {k: 4, m: 4}),
                             ("short", tuple(sorted((k, m))), (4,)))
        self.assertEqual(granted(BOOK, START, {0: 1, 1: 1}), ("short", (0, 1), (1,)))

    def test_a_slot_that_the_appointment_may_not_use(self):
        self.assertEqual(granted(BOOK, START, {0: 2}), ("short", (0,), ()))
        self.assertEqual(granted(BOOK, START, {0: 3}), ("short", (0,), ()))
        self.assertEqual(granted(BOOK, START, {2: 2}), ("short", (2,), ()))
        self.assertEqual(granted(BOOK, START, {1: 2, 0: 2}), ("short", (0,), ()))

    def test_a_closed_slot(self):
        self.assertEqual(granted(MIXED, MIXED_START, {5: 5}), ("short", (5,), ()))
        self.assertEqual(granted(MIXED, MIXED_START, {5: 4}), ("short", (5,), ()))

    def test_frozen_appointments(self):
        self.assertEqual(granted(MIXED, MIXED_START, {3: 4, 4: 5})[0], "granted")
        self.assertEqual(granted(MIXED, MIXED_START, {3: 5}), ("short", (3,), ()))
        self.assertEqual(granted(MIXED, MIXED_START, {3: 5, 4: 4})[0], "short")
        self.assertEqual(granted(MIXED, MIXED_START, {3: 4, 0: 1, 5: 7})[0], "granted")
        full = Book(2, [[0, 1], [0, 1]])
        self.assertEqual(granted(full, (0, 1), {0: 1}), ("short", (0,), ()))
        self.assertEqual(granted(full, (0, 1), {0: 1, 1: 0})[0], "short")
        self.assertEqual(granted(full, (0, 1), {1: 1}), ("granted", (0, 1)))

    def test_two_timetables_that_moves_do_not_connect(self):
        book, one, other = Book(4, [[0, 1], [0, 1], [1, 2, 3]]), (0, 1, 2), (1, 0, 2)
        for given, far in ((one, other), (other, one)):
            self.assertEqual(granted(book, given, {0: given[0], 2: 3}), ("granted", (*given[:2], 3)))
            self.assertEqual(granted(book, given, {0: far[0]}), ("short", (0,), ()))
            self.assertEqual(granted(book, given, {1: far[1], 2: 3}), ("short", (1,), ()))

    def test_a_named_slot_is_not_possible_for_others(self):
        # Appointment 3 is frozen and does not get slot 3, but nobody else may have it either.
        self.assertEqual(granted(MIXED, MIXED_START, {3: 3}), ("short", (3,), ()))
        book = Book(5, [[0, 1], [0, 1], [1, 2], [3, 4]])
        self.assertEqual(granted(book, (0, 1, 2, 3), {3: 2})[0], "short")
        self.assertIsNone(check_granted(book, (0, 1, 2, 3), {3: 2}, ("short", (3,), ())))

    def test_too_few_slots_far_from_the_wishes(self):
        book, rows, size, start = corridor(60)
        self.assertEqual(granted(book, start, {0: 1}), ("granted", tuple(range(1, 60))))
        self.assertEqual(self.assert_answer(book, rows, size, start, {30: 31}), "granted")
        # Appointments 1 to 57 must go on, and have the slots 2 to 57 only.
        self.assertEqual(self.assert_answer(book, rows, size, start, {0: 1, 58: 58}), "short")
        self.assertEqual(self.assert_answer(book, rows, size, start, {10: 11, 20: 20}), "short")
        self.assertEqual(self.assert_answer(book, rows, size, start, {10: 10, 20: 21}), "granted")

    def test_all_slots_of_a_timetable_after_many_moves(self):
        random = Random(33)
        for name, book, rows, size, start in long_books(33):
            with self.subTest(name):
                other = wandered(random, book, rows, size, start, 3000)
                self.assertEqual(granted(book, start, dict(enumerate(other))), ("granted", other))
                self.assertEqual(granted(book, other, dict(enumerate(start))), ("granted", start))
                some = {k: other[k] for k in random.sample(range(len(rows)), len(rows) // 2)}
                self.assertEqual(self.assert_answer(book, rows, size, start, some), "granted")

    def test_random_wishes_in_books_of_sixty_slots(self):
        random = Random(34)
        words = []
        for name, book, rows, size, start in long_books(34, fewest_free=0):
            with self.subTest(name):
                for many in (1, 2, 3, 5, 10, 30, len(rows)):
                    wishes = {k: random.choice(rows[k]) for k in random.sample(range(len(rows)), min(many, len(rows)))}
                    words.append(self.assert_answer(book, rows, size, start, wishes))
        self.assertGreater(words.count("granted"), 20)
        self.assertGreater(words.count("short"), 20)

    def test_order_of_the_keys(self):
        for wishes in ({0: 1, 1: 1, 2: 3}, {0: 1, 1: 2}, {5: 6, 3: 5, 0: 1}):
            answers = [granted(MIXED, MIXED_START, dict(items)) for items in permutations(wishes.items())]
            self.assertEqual(answers, answers[:1] * len(answers))

    def test_no_wish(self):
        for number, (key, wishes) in enumerate(wrong_wishes()):
            with self.subTest(number):
                self.assert_keeps(NoWish, "key", key, granted, BOOK, START, wishes)

    def test_first_wrong_key(self):
        for items in permutations([(0, 0), (True, 1), (2, 4), (-1, 1)]):
            first = [key for key, slot in items if (key, slot) != (0, 0)][0]
            self.assert_keeps(NoWish, "key", first, granted, BOOK, START, dict(items))
        self.assert_keeps(NoWish, "key", 0, granted, Book(3, []), (), {0: 0})
        self.assert_raises(NoWish, "key", 1, granted, Book(2, [[0, 1], [0, 1]]), (0, 1), {1: 2})

    def test_slots_that_are_bools(self):
        for value in (True, False):
            self.assert_raises(NoWish, "key", 0, granted, BOOK, START, {0: value})

    def test_no_timetable(self):
        for wishes in ({}, {0: 1}, None, {9: 9}, {None: None}, Odd()):
            self.assert_no_timetables(granted, wishes)


class CheckGranted(Raises):
    wishes = {0: 1, 5: 7}
    # With these, appointments 0 and 1 want the same slot.
    both = {0: 1, 1: 1}
    start = MIXED_START

    def assert_wrong(self, index, wishes, answer):
        self.assert_raises(NoCertificate, "index", index, check_granted, MIXED, self.start, wishes, answer)

    def test_every_timetable_in_small_books(self):
        random = Random(35)
        for book, rows, size, timetable in small_timetables(35):
            found = reached(book, timetable, most=5000)
            wishes = some_wishes(random, size, rows, found)
            for other in all_timetables(size, rows)[:40]:
                if other not in found:
                    expected = 1
                else:
                    expected = None if fulfils(other, wishes) else 2
                self.assert_checked(expected, book, timetable, wishes, ("granted", other))

    def assert_checked(self, expected, book, timetable, wishes, answer):
        if expected is None:
            self.assertIsNone(check_granted(book, timetable, wishes, answer))
        else:
            self.assert_raises(NoCertificate, "index", expected, check_granted, book, timetable, wishes, answer)

    def test_every_short_set_in_small_books(self):
        """[32] Such an answer is correct exactly if the slots are too few, and then nothing fulfils the wishes."""
        random = Random(36)
        for book, rows, size, start in mixed_books(36, 200, most_slots=5):
            found = reached(book, start, most=5000)
            wishes = some_wishes(random, size, rows, found)
            possible = possible_slots(size, rows, start, wishes)
            fewer = False
            for many in range(1, len(rows) + 1):
                for appointments in combinations(range(len(rows)), many):
                    slots = set().union(*[possible[k] for k in appointments])
                    expected = None if len(slots) < many else 2
                    fewer = fewer or expected is None
                    for given in (appointments, appointments[::-1]):
                        answer = ("short", given, tuple(random.sample(sorted(slots), len(slots))))
                        self.assert_checked(expected, book, start, wishes, answer)
                    self.assert_checked(1, book, start, wishes, ("short", appointments, (*sorted(slots), size)))
                    if slots:
                        self.assert_checked(1, book, start, wishes, ("short", appointments, (*sorted(slots)[1:],)))
                        self.assert_checked(1, book, start, wishes, ("short", appointments, (min(slots), *slots)))
            self.assertEqual(fewer, not any(fulfils(other, wishes) for other in found))

    def test_any_order(self):
        wishes = {0: 1, 2: 2}
        for appointments in permutations((0, 1, 2)):
            for slots in permutations((1, 2)):
                self.assertIsNone(check_granted(MIXED, self.start, wishes, ("short", appointments, slots)))

    def test_certificates_with_more_appointments(self):
        for answer in (("short", (1, 0), (1,)), ("short", (0, 1, 4), (5, 1)), ("short", (4, 3, 1, 0), (4, 1, 5))):
            self.assertIsNone(check_granted(MIXED, self.start, self.both, answer))
        for answer in (("short", (3,), ()), ("short", (3, 4), (5,)), ("short", (4, 3, 0), (5, 1))):
            self.assertIsNone(check_granted(MIXED, self.start, {3: 5, 0: 1}, answer))

    def test_other_kinds(self):
        other = (1, 2, 3, 4, 5, 7)
        wrong = [1, "granted", "short", [], ["granted", other], {"granted": other}, (), ("granted",), ("short",),
                 ("granted", other, ()), ("granted", other, other), ("granted", other, other, other),
                 ("granted", list(other)), ("granted", None), ("granted", "other"), ("granted", {}), ("granted", 1),
                 ("short", (0, 1)), ("short", (0, 1), [1]), ("short", [0, 1], (1,)), ("short", [0, 1], [1]),
                 ("short", (0, 1), None), ("short", None, (1,)), ("short", {0, 1}, (1,)), ("short", (0, 1), {1}),
                 ("short", (0, 1), (1,), ()), ("short", (), (), ()), ("short", 0, 1), ("short", (0, 1), 1),
                 ("granted", (0, 1), (1,)), ("short", other), ("Granted", other), ("Short", (0, 1), (1,)),
                 ("grant", other), ("shorter", (0, 1), (1,)), ("placed", other), ("full", (0, 1), (1,)), ("", other),
                 (["granted"], other), ({"granted": 1}, other), (True, other), (None, other), (b"granted", other),
                 (0, other), (["short"], (0, 1), (1,)), ({}, (0, 1), (1,)), (True, (0, 1), (1,)),
                 (("short",), (0, 1), (1,)), (other, "granted"), ((0, 1), "short", (1,))]
        wrong += no_integers()
        wrong += [(value, other) for value in no_integers()] + [(value, (0, 1), (1,)) for value in no_integers()]
        wrong += [("granted", value) for value in no_integers() if not isinstance(value, tuple)]
        wrong += [("short", value, (1,)) for value in no_integers() if not isinstance(value, tuple)]
        wrong += [("short", (0, 1), value) for value in no_integers() if not isinstance(value, tuple)]
        for number, answer in enumerate(wrong):
            with self.subTest(number):
                self.assert_wrong(-1, self.wishes, answer)
                self.assert_wrong(-1, self.both, answer)

    def test_no_timetable_in_the_answer(self):
        for other in ((), (1,), (1, 2, 3, 4, 5), (1, 2, 3, 4, 5, 7, 0), (1, 1, 3, 4, 5, 7), (2, 1, 3, 4, 5, 7),
                      (1, 2, 3, 4, 4, 7), (True, 2, 3, 4, 5, 7), (0, True, 2, 4, 5, 7), (1, 2, 3, 4, 5, 8)):
            self.assert_wrong(0, self.wishes, ("granted", other))
        for value in no_integers():
            self.assert_wrong(0, self.wishes, ("granted", (1, 2, 3, 4, 5, value)))
            self.assert_wrong(0, self.wishes, ("granted", (value, 2, 3, 4, 5, 7)))
        self.assert_raises(NoCertificate, "index", 0, check_granted, Book(2, [[0, 1]]), (0,), {0: 1},
                           ("granted", (True,)))

    def test_timetable_that_is_not_reached(self):
        self.assert_wrong(1, self.wishes, ("granted", (1, 2, 3, 5, 4, 7)))
        # Whether it fulfils the wishes comes later.
        self.assert_wrong(1, self.wishes, ("granted", (0, 1, 2, 5, 4, 6)))
        self.assert_wrong(1, {3: 5, 4: 4}, ("granted", (0, 1, 2, 5, 4, 6)))

    def test_timetable_that_does_not_fulfil_the_wishes(self):
        for other in (MIXED_START, (1, 2, 3, 4, 5, 6), (0, 1, 2, 4, 5, 7), (0, 2, 3, 4, 5, 7)):
            self.assert_wrong(2, self.wishes, ("granted", other))
        self.assertIsNone(check_granted(MIXED, MIXED_START, self.wishes, ("granted", (1, 2, 3, 4, 5, 7))))
        self.assert_wrong(2, {3: 5}, ("granted", MIXED_START))
        self.assert_wrong(2, {0: 3}, ("granted", MIXED_START))

    def test_wrong_appointments(self):
        for appointments in ((), (0, 1, 0), (1, 1), (6,), (0, 1, 6), (-1, 0, 1), (0, 1, 60)):
            for slots in ((1,), (), (1, 2), (None,)):
                self.assert_wrong(0, self.both, ("short", appointments, slots))
        for value in [-1, 6, 7, 10 ** 5000, *no_integers()]:
            for slots in ((1,), (None,), (1, 1)):
                self.assert_wrong(0, self.both, ("short", (0, 1, value), slots))
                self.assert_wrong(0, self.both, ("short", (value,), slots))
        self.assert_wrong(0, self.both, ("short", (False, True), (1,)))
        self.assert_wrong(0, self.both, ("short", (0, True), (1,)))

    def test_wrong_slots(self):
        for slots in ((), (2,), (1, 1), (1, 2), (0, 1), (1, -1), (1, 8), (1, 60), (-7,)):
            self.assert_wrong(1, self.both, ("short", (0, 1), slots))
        for value in no_integers():
            self.assert_wrong(1, self.both, ("short", (0, 1), (value,)))
            self.assert_wrong(1, self.both, ("short", (0, 1), (1, value)))
            self.assert_wrong(1, self.both, ("short", (0, 1), (value, 1)))
        self.assert_wrong(1, self.both, ("short", (0, 1, 2), (1, 2)))
        self.assert_wrong(1, self.both, ("short", (0, 1, 3), (1,)))
        # These are not fewer than the appointments, but that comes later.
        self.assert_wrong(1, self.both, ("short", (0,), (1, 2)))
        self.assert_wrong(1, self.both, ("short", (0,), ()))

    def test_enough_slots(self):
        for appointments, slots in (((0,), (1,)), ((2,), (2, 3)), ((3, 4), (4, 5)), ((0, 1, 2), (1, 2, 3)),
                                    ((5,), (6, 7)), ((5, 4), (5, 6, 7))):
            self.assert_wrong(2, self.both, ("short", appointments, slots))

    def test_possible_slots(self):
        wishes = {0: 0, 3: 6, 4: 5}
        for appointments, slots in (((0,), (0,)), ((1,), (1, 2)), ((2,), (2, 3)), ((4,), (5,)), ((5,), (7,))):
            self.assert_wrong(2, wishes, ("short", appointments, slots))
        self.assertIsNone(check_granted(MIXED, self.start, wishes, ("short", (3,), ())))
        for appointments, slots in (((5,), (6, 7)), ((5,), (5, 7)), ((4,), (4, 5)), ((3,), (4,)), ((3,), (6,)),
                                    ((1,), (0, 1, 2))):
            self.assert_wrong(1, wishes, ("short", appointments, slots))

    def test_sixty_slots(self):
        book, rows, size, start = placed_book([list(range(60))] * 59, range(59))
        wishes = {k: 59 for k in range(59)}
        self.assertIsNone(check_granted(book, start, wishes, ("short", tuple(range(58, -1, -1)), (59,))))
        self.assertIsNone(check_granted(book, start, {0: 59}, ("granted", (59, *range(1, 59)))))
        self.assertIsNone(check_granted(book, start, {0: 58, 58: 0}, ("granted", (58, *range(1, 58), 0))))
        # A plan leads there.
        self.assertEqual(plan(book, start, (58, *range(1, 58), 0))[0], "plan")

    def test_no_wish_goes_before_the_answer(self):
        for number, (key, wishes) in enumerate(wrong_wishes()):
            for answer in (None, ("granted", START), ("short", (0,), ())):
                with self.subTest(number):
                    self.assert_keeps(NoWish, "key", key, check_granted, BOOK, START, wishes, answer)

    def test_no_timetable(self):
        for wishes, answer in (({}, None), (None, ("granted", START)), ({9: 9}, ("short", (0,), ())), ({0: 1}, Odd())):
            self.assert_no_timetables(check_granted, wishes, answer)
        for index, timetable in NO_TIMETABLES:
            self.assert_raises(NoTimetable, "index", index, check_granted, BOOK, timetable, {}, ("granted", timetable))
