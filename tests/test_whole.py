"""[2], [3], [4], [6] What the document promises over the whole program."""

import copy
import inspect
import unittest
from itertools import combinations, product
from random import Random

from reslot import books, costs, moves, opening, options, plans, releasing, wishes
from reslot.books import Book
from reslot.costs import cheapest, check_cheapest, most_granted
from reslot.errors import NoTimetable
from reslot.moves import moved, reached
from reslot.opening import check_tight, frozen, open_slots
from reslot.options import check_insert, insert
from reslot.options import options as options_of
from reslot.plans import check_plan, plan
from reslot.releasing import cancelled, fewest_cancelled, tight_sets
from reslot.wishes import check_granted, granted
from tests.helper import (BOOK, NO_TIMETABLES, START, Odd, Raises, all_timetables, deep_list, distances, long_books,
                          mixed_books, played, raised, small_timetables, wandered)

MODULES = (books, costs, moves, opening, options, plans, releasing, wishes)
NAMES = {"books": ["check_timetable"], "moves": ["free_slots", "moved", "moves", "reached"],
         "costs": ["cheapest", "check_cheapest", "most_granted"],
         "opening": ["check_tight", "frozen", "open_slots", "vacated"],
         "options": ["bring", "check_insert", "insert", "options"], "plans": ["check_plan", "least", "plan"],
         "releasing": ["cancelled", "check_cancelled", "fewest_cancelled", "tight_sets"],
         "wishes": ["check_granted", "granted"]}


def functions():
    """(function, names of its parameters) for every function of the interface."""
    for module in MODULES:
        for name in NAMES[module.__name__.removeprefix("reslot.")]:
            call = getattr(module, name)
            yield call, list(inspect.signature(call).parameters)


def wrong_values():
    return [None, -1, 99, True, "text", b"", (), (9, 9), (None, [], {}), [], [9], [[], None], {}, {9: 9}, {None: None},
            object, Odd(), deep_list(), ("placed", [], 0), ("granted", (0, 1, 3))]


def values_of_kinds(size, rows, timetable, random):
    """One call for each function that has no errors then: (function, arguments by name)."""
    both = {"book": Book(size, rows), "timetable": timetable}
    pair = {"book": Book(size, rows), "one": timetable, "other": random.choice(all_timetables(size, rows))}
    wished = {k: random.randrange(size) for k in random.sample(range(len(rows)), random.randint(0, len(rows)))}
    given = [[random.randint(-5, 5) for _ in row] for row in rows]
    gone = tuple(random.sample(range(len(rows)), random.randint(0, len(rows))))
    return [(moves.free_slots, both), (moves.moves, both), (moves.reached, {**both, "most": 10 ** 6}),
            (opening.open_slots, both), (opening.frozen, both), (plans.least, pair), (plans.plan, pair),
            (options.insert, {**both, "allowed": sorted(random.sample(range(size), random.randint(1, size)))}),
            (granted, {**both, "wishes": wished}), (most_granted, {**both, "wishes": wished}),
            (cheapest, {**both, "costs": given}), (tight_sets, both), (fewest_cancelled, both),
            (cancelled, {**both, "appointments": gone})]


class NoTimetableFirst(Raises):
    def test_every_function_is_here(self):
        with_timetable = [call.__name__ for call, names in functions()]
        self.assertEqual(len(with_timetable), 25)
        for module in MODULES:
            here = NAMES[module.__name__.removeprefix("reslot.")]
            for name in here:
                self.assertEqual(getattr(module, name).__module__, module.__name__)

    def test_one_timetable(self):
        many = 0
        for call, names in functions():
            if "timetable" not in names:
                continue
            many += 1
            others = [name for name in names if name not in ("book", "timetable", "most")]
            for index, timetable in NO_TIMETABLES:
                for values in product(wrong_values(), repeat=len(others)):
                    error = raised(call, book=BOOK, timetable=timetable, **dict(zip(others, values)))
                    self.assertEqual((type(error), error.index), (NoTimetable, index))
        self.assertEqual(many, 22)

    def test_two_timetables(self):
        many = 0
        for call, names in functions():
            if "one" not in names:
                continue
            many += 1
            others = [name for name in names if name not in ("book", "one", "other")]
            for values in product(wrong_values(), repeat=len(others)):
                more = dict(zip(others, values))
                for index, timetable in NO_TIMETABLES:
                    for second in (START, None, (0, 0, 3), *[wrong for _, wrong in NO_TIMETABLES]):
                        error = raised(call, book=BOOK, one=timetable, other=second, **more)
                        self.assertEqual((type(error), error.index), (NoTimetable, index))
                    error = raised(call, book=BOOK, one=START, other=timetable, **more)
                    self.assertEqual((type(error), error.index), (NoTimetable, index))
        self.assertEqual(many, 3)

    def test_too_few_results_come_later(self):
        for index, timetable in NO_TIMETABLES:
            self.assert_raises(NoTimetable, "index", index, reached, BOOK, timetable, most=0)


class Again(unittest.TestCase):
    """[2] Equal arguments give equal results, whatever was called before."""

    def test_in_any_order_and_with_new_objects(self):
        random = Random(2)
        calls = []
        for book, rows, size, start in mixed_books(2, 60, most_slots=5):
            calls += values_of_kinds(size, rows, start, random)
        before = [copy.deepcopy(call(**arguments)) for call, arguments in calls]
        for _ in range(2):
            for at in random.sample(range(len(calls)), len(calls)):
                call, arguments = calls[at]
                self.assertEqual(call(**copy.deepcopy(arguments)), before[at])
                self.assertEqual(call(**arguments), before[at])

    def test_results_belong_to_the_caller(self):
        random = Random(3)
        for book, rows, size, start in mixed_books(3, 100, most_slots=5):
            for call, arguments in values_of_kinds(size, rows, start, random):
                kept = copy.deepcopy(arguments)
                result = call(**arguments)
                before = copy.deepcopy(result)
                for item in (result, *(result if isinstance(result, tuple) else ())):
                    if isinstance(item, list):
                        item.append("mine")
                        item[0] = None
                        item.reverse()
                self.assertEqual(call(**arguments), before)
                self.assertEqual(arguments, kept)

    def test_book_of_cancelled_is_a_new_one(self):
        book = Book(3, [[0, 1], [1, 2]])
        left, later = cancelled(book, (0, 1), ())
        left.allowed(0).append(9)
        self.assertEqual((left.allowed(0), later), ([0, 1], (0, 1)))
        self.assertTrue(left == book)

    def test_wishes_that_were_changed_in_place(self):
        book, wished = Book(3, [[0, 1], [1, 2]]), {0: 1}
        self.assertEqual(granted(book, (0, 1), wished), ("granted", (1, 2)))
        wished[1] = 1
        self.assertEqual(granted(book, (0, 1), wished), ("short", (0, 1), (1,)))
        self.assertEqual(most_granted(book, (0, 1), wished)[0], 1)
        wished[1] = 2
        self.assertEqual(most_granted(book, (0, 1), wished), (2, (1, 2)))
        del wished[0], wished[1]
        self.assertEqual(most_granted(book, (0, 1), wished)[0], 0)
        self.assertEqual(granted(book, (0, 1), wished)[0], "granted")
        wished["0"] = 1
        self.assertEqual(raised(granted, book, (0, 1), wished).key, "0")

    def test_costs_that_were_changed_in_place(self):
        book, given = Book(3, [[0, 1], [1, 2]]), [[5, 1], [2, 4]]
        first = cheapest(book, (0, 1), given)
        self.assertEqual(first[:2], (5, (1, 2)))
        given[0][0] = -5
        self.assertEqual(cheapest(book, (0, 1), given)[:2], (-3, (0, 1)))
        given[1] = [2, -4]
        self.assertEqual(cheapest(book, (0, 1), given)[:2], (-9, (0, 2)))
        given[1].append(0)
        self.assertEqual(raised(cheapest, book, (0, 1), given).index, 1)
        given.append([0])
        self.assertEqual(raised(cheapest, book, (0, 1), given).index, -1)
        self.assertEqual(first[:2], (5, (1, 2)))

    def test_order_of_the_keys_of_a_dict(self):
        random = Random(4)
        for book, rows, size, start in mixed_books(4, 300):
            wished = {k: random.randrange(size) for k in random.sample(range(len(rows)), len(rows))}
            turned = {k: wished[k] for k in sorted(wished)}
            answer = granted(book, start, wished)
            self.assertEqual(granted(book, start, turned), answer)
            self.assertEqual(most_granted(book, start, turned), most_granted(book, start, wished))
            self.assertIsNone(check_granted(book, start, turned, answer))
        for keys in ((0, -1, None), (None, 0, -1), (-1, None, 0)):
            first = [key for key in keys if key != 0][0]
            for call in (granted, most_granted):
                self.assertEqual(raised(call, BOOK, START, {key: 1 for key in keys}).key, first)
            self.assertEqual(raised(check_granted, BOOK, START, {key: 1 for key in keys}, None).key, first)


class Together(Raises):
    """[4] The results of several functions, against what is reached in small books."""

    def test_reached_or_frozen(self):
        for book, rows, size, one in mixed_books(40, 200, most_slots=5):
            found = distances(size, rows, one)
            for other in all_timetables(size, rows):
                changed = [k for k in frozen(book, one) if one[k] != other[k]]
                self.assertEqual(other in found, not changed)
                answer = plan(book, one, other)
                self.assertEqual(answer[0], "frozen" if changed else "plan")
                self.assertIsNone(check_plan(book, one, other, answer))
                if changed:
                    self.assertEqual(answer[1], changed[0])
                    self.assertIsNone(check_tight(book, one, answer[2]))

    def test_options(self):
        for book, rows, size, timetable in mixed_books(41, 300, most_slots=5):
            found = distances(size, rows, timetable)
            opened = open_slots(book, timetable)
            for k in range(len(rows)):
                slots = sorted({other[k] for other in found})
                self.assertEqual(options_of(book, timetable, k), slots)
                if k not in frozen(book, timetable):
                    self.assertEqual(slots, [slot for slot in rows[k] if slot in opened])

    def test_insert(self):
        for book, rows, size, timetable in mixed_books(42, 200, most_slots=5):
            opened = open_slots(book, timetable)
            for many in (1, 2):
                for allowed in combinations(range(size), min(many, size)):
                    answer = insert(book, timetable, list(allowed))
                    self.assertEqual(answer[0] == "placed", bool(set(allowed) & set(opened)))
                    self.assertIsNone(check_insert(book, timetable, list(allowed), answer))
                    if answer[0] == "placed":
                        self.assert_entered(book, rows, size, timetable, list(allowed), answer)

    def assert_entered(self, book, rows, size, timetable, allowed, answer):
        word, steps, slot = answer
        later = moved(book, timetable, steps)
        larger, entered = Book(size, [*rows, allowed]), (*later, slot)
        self.assertIsNone(books.check_timetable(larger, entered))
        left, again = cancelled(larger, entered, (len(rows),))
        self.assertTrue(left == book)
        self.assertEqual(again, later)
        self.assertIn(timetable, reached(left, again, most=10 ** 6))

    def test_wishes(self):
        random = Random(43)
        for book, rows, size, timetable in small_timetables(43):
            wished = {k: random.choice((*rows[k], random.randrange(size)))
                      for k in random.sample(range(len(rows)), random.randint(0, len(rows)))}
            fulfilled = [other for other in reached(book, timetable, most=10 ** 6)
                         if all(other[k] == slot for k, slot in wished.items())]
            answer = granted(book, timetable, wished)
            self.assertEqual(answer[0] == "granted", fulfilled != [])
            self.assertIsNone(check_granted(book, timetable, wished, answer))
            if fulfilled:
                self.assert_planned(book, rows, size, timetable, answer[1])
            number, other = most_granted(book, timetable, wished)
            self.assertEqual(number == len(wished), fulfilled != [])
            self.assert_planned(book, rows, size, timetable, other)

    def test_cheapest(self):
        random = Random(44)
        for book, rows, size, timetable in small_timetables(44):
            given = [[random.randint(-9, 9) for _ in row] for row in rows]
            total, other, prices = cheapest(book, timetable, given)
            totals = [sum(given[k][row.index(each[k])] for k, row in enumerate(rows))
                      for each in reached(book, timetable, most=10 ** 6)]
            self.assertEqual(total, min(totals))
            self.assert_planned(book, rows, size, timetable, other)
            # The prices show the same for every timetable from which this one is reached.
            self.assertIsNone(check_cheapest(book, other, given, (total, other, prices)))
            self.assertEqual(cheapest(book, other, given)[0], total)

    def assert_planned(self, book, rows, size, timetable, other):
        word, steps = plan(book, timetable, other)
        self.assertEqual(word, "plan")
        self.assertEqual(played(size, rows, timetable, steps), other)

    def test_cancelled(self):
        for book, rows, size, timetable in small_timetables(45):
            gone, sets = fewest_cancelled(book, timetable)
            left, later = cancelled(book, timetable, gone)
            self.assertEqual(frozen(left, later), ())
            self.assertEqual(open_slots(left, later), list(range(size)))
            self.assertEqual(tight_sets(left, later), [])
            self.assertEqual(fewest_cancelled(left, later), ((), []))
            self.assertEqual(len(gone), len(sets))
            self.assertEqual(len({slot for slots in sets for slot in slots}), sum(len(slots) for slots in sets))
            for slots in sets:
                self.assertIsNone(check_tight(book, timetable, slots))
            # Then everything valid is reached from everything else.
            self.assertEqual(reached(left, later, most=10 ** 6),
                             all_timetables(size, [row for k, row in enumerate(rows) if k not in gone]))

    def test_books_of_sixty_slots(self):
        random = Random(46)
        for name, book, rows, size, start in long_books(46, fewest_free=0):
            with self.subTest(name):
                given = [[random.randint(-9, 9) for _ in row] for row in rows]
                other = cheapest(book, start, given)[1]
                self.assert_planned(book, rows, size, start, other)
                far = wandered(random, book, rows, size, start, 500)
                answer = granted(book, start, dict(enumerate(far)))
                self.assertEqual(answer, ("granted", far))
                self.assert_planned(book, rows, size, other, far)
                gone, sets = fewest_cancelled(book, start)
                self.assertEqual(frozen(*cancelled(book, start, gone)), ())
