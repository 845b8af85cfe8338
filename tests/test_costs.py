"""[40], [41], [42], [43] Costs, cheapest timetables with prices, and the most wishes that can be granted."""

from itertools import permutations, product
from random import Random

from reslot.books import Book, check_timetable
from reslot.costs import cheapest, check_cheapest, most_granted
from reslot.errors import NoCertificate, NoCosts, NoTimetable, NoWish
from reslot.moves import reached
from reslot.wishes import granted
from tests.helper import (BOOK, NO_TIMETABLES, START, Odd, Raises, all_timetables, corridor, lines_run, long_books,
                          mixed_books, no_integers, opened_slots, placed_book, small_books, small_timetables, wandered)

COSTS = [[5, 1], [2, 4], [-3]]
MOST = 1000000

# Appointments 0 to 2 can move in the slots 0 to 3; 3 and 4 fill the slots 4 and 5 for ever; 5 may use a closed slot.
MIXED = Book(8, [[0, 1], [1, 2], [2, 3], [4, 5], [4, 5], [5, 6, 7]])
MIXED_START = (0, 1, 2, 4, 5, 6)
MIXED_COSTS = [[7, 1], [2, 4], [7, 8], [10, 20], [30, 40], [-9, 3, 3]]
MIXED_ANSWER = (1 + 4 + 8 + 10 + 40 + 3, (1, 2, 3, 4, 5, 6), [0, 4, 2, 0, 0, 0, 0, 0])


def total_of(rows, costs, timetable):
    return sum(costs[k][row.index(timetable[k])] for k, row in enumerate(rows))


def some_costs(random, rows):
    """Costs of many kinds: all equal, few different ones, many, only the least and the greatest, negative ones."""
    low, high = random.choice(((0, 0), (7, 7), (-1, 0), (0, 1), (-3, 3), (1, 9), (-9, -1), (-MOST, MOST)))
    if high == MOST and random.random() < 0.4:
        return [[random.choice((-MOST, MOST)) for _ in row] for row in rows]
    return [[random.randint(low, high) for _ in row] for row in rows]


def patterned_costs(random, rows):
    """(name, costs) for costs with a pattern, for appointments k and slots s."""
    centre = [random.sample(range(60), 60), random.sample(range(60), 60)]
    for name, cost in (("zero", lambda k, s: 0), ("by slot", lambda k, s: 100 * s), ("by slot, down", lambda k, s: -s),
                       ("by appointment", lambda k, s: 31 * k), ("sum", lambda k, s: 1000 * k - 999 * s),
                       ("product", lambda k, s: k * s), ("negative product", lambda k, s: -k * s * 200),
                       ("distance", lambda k, s: abs(k - s)), ("square", lambda k, s: (58 - k - s) ** 2),
                       ("greater", lambda k, s: max(k, s)), ("smaller", lambda k, s: min(k, s)),
                       ("extremes", lambda k, s: MOST if (k + s) & 1 else -MOST),
                       ("map", lambda k, s: abs(centre[0][k] - centre[0][s]) + abs(centre[1][k] - centre[1][s])),
                       ("random", lambda k, s: random.randint(-MOST, MOST)),
                       ("small", lambda k, s: random.randint(0, 9))):
        yield name, [[cost(k, s) for s in row] for k, row in enumerate(rows)]


def wrong_costs():
    """(index, argument) for arguments that are no costs of a book whose appointments may use 2, 2, 1 slots."""
    for value in [1, ([5, 1], [2, 4], [-3]), {0: [5, 1], 1: [2, 4], 2: [-3]}, *no_integers()]:
        if not isinstance(value, list):
            yield -1, value
    for value in ([], [[5, 1]], [[5, 1], [2, 4]], [[5, 1], [2, 4], [-3], []], [[5, 1], [2, 4], [-3], [0]], [None], [5]):
        yield -1, value
    wrong = [[], [5], [5, 1, 0], (5, 1), [MOST + 1, 0], [0, -MOST - 1], [0, 10 ** 5000], [True, 0], [0, False],
             [None, 0], [0, "1"], [[5, 1]], [[5], 1], 5, {0: 5, 1: 1}]
    wrong += [value for value in no_integers()]
    wrong += [[value, 0] for value in no_integers()] + [[0, value] for value in no_integers()]
    for item in wrong:
        yield 0, [item, [2, 4], [-3]]
        yield 1, [[5, 1], item, [-3]]
        yield 0, [item, item, item]
        yield 1, [[5, 1], item, None]
    for item in ([], [-3, 1], [MOST + 1], [True], [None], ["0"], (-3,), -3):
        yield 2, [[5, 1], [2, 4], item]


class Prices(Raises):
    def assert_prices(self, rows, size, timetable, costs, answer):
        """The answer keeps to every word of the definition, so that no reachable timetable is cheaper."""
        self.assertEqual([type(answer), *map(type, answer)], [tuple, int, tuple, list])
        total, other, prices = answer
        self.assertEqual(len(set(other)), len(rows))
        for k, row in enumerate(rows):
            self.assertIn(other[k], row)
        opened = opened_slots(size, rows, timetable)
        self.assertEqual([k for k, own in enumerate(timetable) if own not in opened and other[k] != own], [])
        self.assertEqual(total, total_of(rows, costs, other))
        self.assertEqual([type(price) for price in prices], [int] * size)
        self.assertEqual([slot for slot, price in enumerate(prices) if price < 0], [])
        self.assertEqual([slot for slot, price in enumerate(prices)
                          if price and (slot not in opened or slot not in other)], [])
        for k, row in enumerate(rows):
            if timetable[k] in opened:
                sums = {slot: cost + prices[slot] for slot, cost in zip(row, costs[k]) if slot in opened}
                self.assertEqual(sums[other[k]], min(sums.values()))


class Cheapest(Prices):
    def assert_cheapest(self, book, rows, size, timetable, costs):
        answer = cheapest(book, timetable, costs)
        self.assert_prices(rows, size, timetable, costs, answer)
        self.assertIsNone(check_cheapest(book, timetable, costs, answer))
        return answer

    def test_against_what_is_reached(self):
        random = Random(41)
        for book, rows, size, timetable in small_timetables(41):
            found = reached(book, timetable, most=5000)
            for _ in range(3):
                costs = some_costs(random, rows)
                total, other, prices = self.assert_cheapest(book, rows, size, timetable, costs)
                self.assertIn(other, found)
                self.assertEqual(total, min(total_of(rows, costs, each) for each in found))

    def test_every_cost_of_two_appointments(self):
        for book, rows, size in small_books():
            if len(rows) == 2 and size <= 3 and len(rows[0]) + len(rows[1]) <= 4:
                for timetable in all_timetables(size, rows):
                    found = reached(book, timetable)
                    for values in product((-1, 0, 1), repeat=len(rows[0]) + len(rows[1])):
                        costs = [list(values[:len(rows[0])]), list(values[len(rows[0]):])]
                        total = self.assert_cheapest(book, rows, size, timetable, costs)[0]
                        self.assertEqual(total, min(total_of(rows, costs, each) for each in found))

    def test_books_with_few_free_slots(self):
        random = Random(42)
        for book, rows, size, start in mixed_books(42, 300, most_slots=7, fewest_slots=4):
            found = reached(book, start, most=10000)
            for _ in range(3):
                costs = some_costs(random, rows)
                total = self.assert_cheapest(book, rows, size, start, costs)[0]
                self.assertEqual(total, min(total_of(rows, costs, each) for each in found))

    def test_appointments_that_want_the_same_slots(self):
        """No prices could be found if a cheaper timetable could be reached, so they show that it is the cheapest."""
        random = Random(40)
        for _ in range(4000):
            many = random.randint(1, 9)
            size = many + random.choice((1, 1, 2, 3, 5))
            start = random.sample(range(size), many)
            often = random.choice((1, 0.7, 0.3))
            rows = [[slot for slot in range(size) if slot == own or random.random() < often] for own in start]
            pulls = [random.randint(0, 20) for _ in range(size)]
            spread = random.choice((0, 9))
            near = random.choice(([50] * many, [random.randint(0, 20) for _ in range(many)]))
            costs = [[near[k] * pulls[slot] + random.randint(0, spread) for slot in row] for k, row in enumerate(rows)]
            self.assert_prices(rows, size, tuple(start), costs, cheapest(Book(size, rows), tuple(start), costs))

    def test_one_result_only(self):
        self.assertEqual(cheapest(Book(3, [[0, 1], [1, 2]]), (0, 1), [[5, 1], [2, 4]])[:2], (5, (1, 2)))
        self.assertEqual(cheapest(BOOK, START, COSTS)[:2], (2, (1, 2, 3)))
        self.assertEqual(cheapest(BOOK, START, [[0, 0], [1, 0], [7]])[0], 7)
        self.assertEqual(cheapest(BOOK, START, [[0, 1], [1, 0], [7]])[:2], (7, (0, 2, 3)))
        self.assertEqual(cheapest(Book(2, [[0, 1]]), (0,), [[3, 3]])[0], 3)
        self.assertEqual(cheapest(Book(2, [[0, 1]]), (1,), [[-MOST, MOST]])[:2], (-MOST, (0,)))
        self.assertEqual(cheapest(Book(3, []), (), []), (0, (), [0, 0, 0]))

    def test_frozen_appointments(self):
        self.assertEqual(cheapest(MIXED, MIXED_START, MIXED_COSTS)[0], MIXED_ANSWER[0])
        later = (0, 1, 2, 5, 4, 6)
        self.assertEqual(cheapest(MIXED, later, MIXED_COSTS)[0], 1 + 4 + 8 + 20 + 30 + 3)
        for timetable in (MIXED_START, later):
            prices = cheapest(MIXED, timetable, MIXED_COSTS)[2]
            self.assertEqual(prices[4:], [0, 0, 0, 0])
        full = Book(2, [[0, 1], [0, 1]])
        self.assertEqual(cheapest(full, (0, 1), [[9, 0], [0, 9]]), (18, (0, 1), [0, 0]))
        self.assertEqual(cheapest(full, (1, 0), [[9, 0], [0, 9]]), (0, (1, 0), [0, 0]))

    def test_a_closed_slot_is_no_choice(self):
        # Slot 5 would be much cheaper for appointment 5, but it never becomes free.
        self.assertEqual(cheapest(MIXED, MIXED_START, [[0, 0], [0, 0], [0, 0], [0, 0], [0, 0], [-MOST, 1, 2]])[0], 1)

    def test_full_books(self):
        random = Random(43)
        for rows in ([list(range(60))] * 60, [[k] for k in range(60)], [sorted({k, (k + 1) % 60}) for k in range(60)]):
            costs = [[random.randint(-MOST, MOST) for _ in row] for row in rows]
            book, rows, size, start = placed_book(rows, range(60))
            self.assertEqual(cheapest(book, start, costs), (total_of(rows, costs, start), start, [0] * 60))

    def test_books_of_sixty_slots(self):
        random = Random(44)
        for name, book, rows, size, start in long_books(44, fewest_free=0):
            for kind in ((-MOST, MOST), (0, 5), (0, 1)):
                with self.subTest(name, kind=kind):
                    costs = [[random.randint(*kind) for _ in row] for row in rows]
                    total = self.assert_cheapest(book, rows, size, start, costs)[0]
                    other = wandered(random, book, rows, size, start, 1000)
                    self.assertLessEqual(total, total_of(rows, costs, other))
                    self.assertEqual(self.assert_cheapest(book, rows, size, other, costs)[0], total)

    def test_patterns_of_costs(self):
        random = Random(45)
        for name, book, rows, size, start in list(long_books(45))[:8]:
            for pattern, costs in patterned_costs(random, rows):
                with self.subTest(name, pattern=pattern):
                    self.assert_cheapest(book, rows, size, start, costs)

    def test_the_only_cheap_timetable(self):
        random = Random(46)
        for name, book, rows, size, start in long_books(46):
            with self.subTest(name):
                other = wandered(random, book, rows, size, start, 3000)
                costs = [[-1 if slot == other[k] else 0 for slot in row] for k, row in enumerate(rows)]
                self.assertEqual(self.assert_cheapest(book, rows, size, start, costs)[:2], (-len(rows), other))

    def test_least_and_greatest_costs(self):
        book, rows, size, start = placed_book([list(range(60))] * 59, range(59))
        self.assertEqual(self.assert_cheapest(book, rows, size, start, [[MOST] * 60] * 59)[0], 59 * MOST)
        self.assertEqual(self.assert_cheapest(book, rows, size, start, [[-MOST] * 60] * 59)[0], -59 * MOST)
        book, rows, size, start = corridor(60)
        self.assertEqual(cheapest(book, start, [[MOST, -MOST]] * 59)[:2], (-59 * MOST, tuple(range(1, 60))))
        self.assertEqual(cheapest(book, start, [[-MOST, MOST]] * 59)[:2], (-59 * MOST, tuple(range(59))))
        # The last one wants to stay, so that one of all must do without its cheaper slot.
        costs = [[MOST, -MOST]] * 58 + [[-MOST, MOST]]
        self.assertEqual(self.assert_cheapest(book, rows, size, start, costs)[0], -57 * MOST)

    def test_little_work(self):
        # Where every appointment wants the same slots, placing them one after the other without more runs 400000 lines.
        random = Random(47)
        for name, book, rows, size, start in list(long_books(47))[:2]:
            for pattern, costs in patterned_costs(random, rows):
                with self.subTest(name, pattern=pattern):
                    lines = lines_run(lambda: cheapest(book, start, costs))
                    self.assertLess(lines, 300000 if pattern == "smaller" else 90000)

    def test_no_costs(self):
        for number, (index, costs) in enumerate(wrong_costs()):
            with self.subTest(number):
                self.assert_raises(NoCosts, "index", index, cheapest, BOOK, START, costs)
        self.assert_raises(NoCosts, "index", -1, cheapest, Book(3, []), (), [[]])
        self.assert_raises(NoCosts, "index", -1, cheapest, Book(3, []), (), None)
        self.assert_raises(NoCosts, "index", 0, cheapest, Book(3, [[0, 2]]), (0,), [[1, 2, 3]])
        self.assert_raises(NoCosts, "index", 59, cheapest, Book(60, [[k] for k in range(60)]), tuple(range(60)),
                           [[0]] * 59 + [[]])

    def test_greatest_costs_that_are_allowed(self):
        for value in (MOST, -MOST, MOST - 1, 0):
            self.assertEqual(cheapest(Book(1, [[0]]), (0,), [[value]]), (value, (0,), [0]))
        for value in (MOST + 1, -MOST - 1):
            self.assert_raises(NoCosts, "index", 0, cheapest, Book(1, [[0]]), (0,), [[value]])

    def test_no_timetable(self):
        for costs in (COSTS, [], None, [[]], [None] * 3, Odd()):
            self.assert_no_timetables(cheapest, costs)


class CheckCheapest(Prices):
    def assert_wrong(self, index, answer, costs=MIXED_COSTS):
        self.assert_raises(NoCertificate, "index", index, check_cheapest, MIXED, MIXED_START, costs, answer)

    def assert_right(self, answer, costs=MIXED_COSTS):
        self.assertIsNone(check_cheapest(MIXED, MIXED_START, costs, answer))

    def test_every_timetable_and_price_of_small_books(self):
        """[42] Against the words of the definition, over all timetables and many lists of prices."""
        random = Random(48)
        numbers = []
        for book, rows, size, start in mixed_books(48, 120, most_slots=4):
            costs = [[random.randint(0, 2) for _ in row] for row in rows]
            found = reached(book, start)
            least = min(total_of(rows, costs, each) for each in found)
            for other in all_timetables(size, rows):
                for prices in product(range(3), repeat=size):
                    answer = (total_of(rows, costs, other), other, list(prices))
                    number = 1 if other not in found else self.number(rows, size, start, costs, answer)
                    numbers.append(number)
                    if number is None:
                        self.assertIsNone(check_cheapest(book, start, costs, answer))
                        self.assertEqual(answer[0], least)
                    else:
                        self.assert_raises(NoCertificate, "index", number, check_cheapest, book, start, costs, answer)
        for number in (None, 1, 3, 4):
            self.assertGreater(numbers.count(number), 100)

    def number(self, rows, size, timetable, costs, answer):
        """The value of NoCertificate for prices and sums, from the definition."""
        total, other, prices = answer
        opened = opened_slots(size, rows, timetable)
        if any(prices[slot] for slot in range(size) if slot not in opened or slot not in other):
            return 3
        for k, row in enumerate(rows):
            sums = {slot: cost + prices[slot] for slot, cost in zip(row, costs[k]) if slot in opened}
            if timetable[k] in opened and sums[other[k]] > min(sums.values()):
                return 4
        return None

    def test_other_prices(self):
        total, other, _ = MIXED_ANSWER
        for first, second, third in product(range(9), range(7), range(5)):
            prices = [0, first, second, third, 0, 0, 0, 0]
            if 1 + first <= 7 and 4 + second <= 2 + first and 8 + third <= 7 + second:
                self.assert_right((total, other, prices))
            else:
                self.assert_wrong(4, (total, other, prices))
        self.assert_right((total, (1, 2, 3, 4, 5, 7), [0, 5, 2, 1, 0, 0, 0, 0]))

    def test_other_kinds(self):
        total, other, prices = MIXED_ANSWER
        wrong = [total, other, prices, [], (), list(MIXED_ANSWER), (total,), (total, other), (total, other, prices, 0),
                 (other, prices), (total, prices, other), (total, list(other), prices), (total, other, tuple(prices)),
                 (total, None, prices), (total, other, None), (total, "other", prices), (total, {}, prices),
                 (total, other, {}), (total, other, dict(enumerate(prices))), (True, other, prices),
                 (False, other, prices), (None, other, prices), ("66", other, prices), ((total,), other, prices),
                 ([total], other, prices), {"total": total}, (total, other, "prices"), ("cheapest", *MIXED_ANSWER)]
        wrong += no_integers()
        wrong += [(value, other, prices) for value in no_integers()]
        wrong += [(total, value, prices) for value in no_integers() if not isinstance(value, tuple)]
        wrong += [(total, other, value) for value in no_integers() if not isinstance(value, list)]
        for number, answer in enumerate(wrong):
            with self.subTest(number):
                self.assert_wrong(-1, answer)

    def test_a_bool_is_no_total(self):
        self.assert_raises(NoCertificate, "index", -1, check_cheapest, Book(1, [[0]]), (0,), [[1]], (True, (0,), [0]))
        self.assertIsNone(check_cheapest(Book(1, [[0]]), (0,), [[1]], (1, (0,), [0])))

    def test_no_timetable_in_the_answer(self):
        for other in ((), (1,), (1, 2, 3, 4, 5), (1, 2, 3, 4, 5, 6, 0), (1, 1, 3, 4, 5, 6), (2, 1, 3, 4, 5, 6),
                      (True, 2, 3, 4, 5, 6), (0, True, 2, 4, 5, 6), (1, 2, 3, 4, 5, 8)):
            # Whatever the total and the prices are.
            for total, prices in ((MIXED_ANSWER[0], MIXED_ANSWER[2]), (0, []), (-5, [None])):
                self.assert_wrong(0, (total, other, prices))
        for value in no_integers():
            self.assert_wrong(0, (MIXED_ANSWER[0], (1, 2, 3, 4, 5, value), MIXED_ANSWER[2]))

    def test_timetable_that_is_not_reached(self):
        other = (1, 2, 3, 5, 4, 6)
        for total, prices in ((1 + 4 + 8 + 20 + 30 + 3, MIXED_ANSWER[2]), (0, []), (MIXED_ANSWER[0], [None] * 8)):
            self.assert_wrong(1, (total, other, prices))

    def test_another_total(self):
        for total in (MIXED_ANSWER[0] + 1, MIXED_ANSWER[0] - 1, 0, -MIXED_ANSWER[0], 10 ** 5000):
            for prices in (MIXED_ANSWER[2], [], [None] * 8, [9] * 8):
                self.assert_wrong(2, (total, MIXED_ANSWER[1], prices))
        # Frozen appointments are included.
        self.assert_wrong(2, (1 + 4 + 8 + 3, MIXED_ANSWER[1], MIXED_ANSWER[2]))

    def test_wrong_prices(self):
        total, other, prices = MIXED_ANSWER
        wrong = [[], prices[:7], prices + [0], [0, 4, 2, 0, 1, 0, 0, 0], [0, 4, 2, 0, 0, 1, 0, 0],
                 [1, 4, 2, 0, 0, 0, 0, 0], [0, 4, 2, 0, 0, 0, 0, 1], [0, 4, -2, 0, 0, 0, 0, 0],
                 [0, 4, 2, -1, 0, 0, 0, 0], [0, 4, 2, 0, 0, 0, 0, -1], [-1, 4, 2, 0, 0, 0, 0, 0], [prices], [0, 0],
                 [0, 9, 9, 9, 9, 9, 9, 9], [False] * 8, [0, 4, 2, 0, 0, 0, 0, False], [0, 4, 2, False, 0, 0, 0, 0]]
        for value in no_integers():
            wrong += [[value] * 8, [0, value, 2, 0, 0, 0, 0, 0], [value, 4, 2, 0, 0, 0, 0, 0], prices[:7] + [value]]
        for number, each in enumerate(wrong):
            with self.subTest(number):
                self.assert_wrong(3, (total, other, each))

    def test_price_of_a_bool(self):
        self.assert_raises(NoCertificate, "index", 3, check_cheapest, Book(3, [[0, 1], [1, 2]]), (0, 1),
                           [[2, 1], [3, 4]], (5, (1, 2), [0, True, 0]))
        self.assertIsNone(check_cheapest(Book(3, [[0, 1], [1, 2]]), (0, 1), [[2, 1], [3, 4]], (5, (1, 2), [0, 1, 0])))

    def test_sums_that_are_not_smallest(self):
        total, other, _ = MIXED_ANSWER
        for prices in ([0] * 8, [0, 1, 0, 0, 0, 0, 0, 0], [0, 7, 2, 0, 0, 0, 0, 0], [0, 4, 3, 0, 0, 0, 0, 0],
                       [0, 2, 1, 0, 0, 0, 0, 0], [0, 4, 2, 2, 0, 0, 0, 0], [0, 4, 2, 0, 0, 0, 1, 0],
                       [0, 10 ** 5000, 2, 0, 0, 0, 0, 0]):
            self.assert_wrong(4, (total, other, prices))
        # This one is not cheapest, so there are no prices for it.
        for prices in ([0] * 8, [0, 4, 0, 0, 0, 0, 0, 0], [4, 0, 0, 0, 0, 0, 0, 0], [6, 2, 1, 0, 0, 0, 0, 0]):
            self.assert_wrong(4, (7 + 2 + 7 + 10 + 40 + 3, MIXED_START, prices))

    def test_example_of_the_point(self):
        book = Book(3, [[0, 1], [1, 2]])
        for first in range(7):
            answer = (5, (1, 2), [0, first, 0])
            if 2 <= first <= 4:
                self.assertIsNone(check_cheapest(book, (0, 1), [[5, 1], [2, 4]], answer))
            else:
                self.assert_raises(NoCertificate, "index", 4, check_cheapest, book, (0, 1), [[5, 1], [2, 4]], answer)

    def test_closed_slots_do_not_count(self):
        # Appointment 5 would have a smaller sum in the closed slot 5, and the frozen ones in each other's.
        costs = [[7, 1], [2, 4], [7, 8], [20, 10], [40, 30], [-MOST, 3, 3]]
        self.assert_right((1 + 4 + 8 + 20 + 30 + 3, (1, 2, 3, 4, 5, 6), [0, 4, 2, 0, 0, 0, 0, 0]), costs)

    def test_no_costs_goes_before_the_answer(self):
        for number, (index, costs) in enumerate(wrong_costs()):
            for answer in (None, (2, (1, 2, 3), [0, 3, 0, 0])):
                with self.subTest(number):
                    self.assert_raises(NoCosts, "index", index, check_cheapest, BOOK, START, costs, answer)

    def test_no_timetable(self):
        for costs, answer in ((COSTS, None), (None, (2, (1, 2, 3), [0, 3, 0, 0])), ([[]], Odd()), (Odd(), None)):
            self.assert_no_timetables(check_cheapest, costs, answer)
        for index, timetable in NO_TIMETABLES:
            self.assert_raises(NoTimetable, "index", index, check_cheapest, BOOK, timetable, COSTS, (2, timetable, []))


class MostGranted(Raises):
    def assert_most(self, book, rows, size, timetable, wishes, number=None):
        answer = most_granted(book, timetable, wishes)
        self.assertEqual([type(answer), *map(type, answer)], [tuple, int, tuple])
        many, other = answer
        self.assertIsNone(check_timetable(book, other))
        opened = opened_slots(size, rows, timetable)
        self.assertEqual([k for k, own in enumerate(timetable) if own not in opened and other[k] != own], [])
        self.assertEqual(many, len([k for k, slot in wishes.items() if other[k] == slot]))
        if number is not None:
            self.assertEqual(many, number)
        self.assertEqual(many == len(wishes), granted(book, timetable, wishes)[0] == "granted")
        return answer

    def test_against_what_is_reached(self):
        random = Random(49)
        for book, rows, size, timetable in small_timetables(49):
            found = reached(book, timetable, most=5000)
            for _ in range(3):
                chosen = random.sample(range(len(rows)), random.randint(0, len(rows)))
                wishes = {k: random.choice((random.choice(rows[k]), random.randrange(size))) for k in chosen}
                number = max(sum(other[k] == slot for k, slot in wishes.items()) for other in found)
                self.assertIn(self.assert_most(book, rows, size, timetable, wishes, number)[1], found)

    def test_books_with_few_free_slots(self):
        random = Random(50)
        for book, rows, size, start in mixed_books(50, 300, most_slots=7, fewest_slots=4):
            found = reached(book, start, most=10000)
            for _ in range(3):
                wishes = {k: random.choice(row) for k, row in enumerate(rows)}
                number = max(sum(other[k] == slot for k, slot in wishes.items()) for other in found)
                self.assert_most(book, rows, size, start, wishes, number)

    def test_no_wishes(self):
        for name, book, rows, size, start in long_books(51, fewest_free=0):
            self.assert_most(book, rows, size, start, {}, 0)
        self.assertEqual(most_granted(Book(3, []), (), {}), (0, ()))

    def test_wishes_that_contradict_one_another(self):
        book, rows, size, start = placed_book([list(range(60))] * 59, range(59))
        for many in (1, 2, 30, 59):
            self.assert_most(book, rows, size, start, {k: 7 for k in range(many)}, 1)
            self.assert_most(book, rows, size, start, {k: k // 2 for k in range(many)}, (many + 1) // 2)

    def test_frozen_appointments(self):
        rows = [MIXED.allowed(k) for k in range(6)]
        for wishes, number in (({3: 4, 4: 5}, 2), ({3: 5, 4: 4}, 0), ({3: 4, 4: 4}, 1), ({3: 4, 5: 5}, 1), ({5: 4}, 0),
                               ({0: 3, 1: 0, 2: 1}, 0), ({0: 1, 1: 2, 2: 3, 3: 4, 4: 5, 5: 7}, 6),
                               ({0: 1, 1: 1, 2: 2, 3: 5, 4: 5, 5: 7}, 4)):
            self.assert_most(MIXED, rows, 8, MIXED_START, wishes, number)
        full = Book(2, [[0, 1], [0, 1]])
        self.assertEqual(most_granted(full, (0, 1), {0: 1, 1: 0}), (0, (0, 1)))
        self.assertEqual(most_granted(full, (1, 0), {0: 1, 1: 0}), (2, (1, 0)))

    def test_granting_one_wish_costs_two_others(self):
        # If appointment 0 gets slot 1, then 1 and 2 must leave their own slots.
        book, rows = Book(4, [[0, 1], [1, 2], [2, 3]]), [[0, 1], [1, 2], [2, 3]]
        self.assert_most(book, rows, 4, (0, 1, 2), {0: 1, 1: 1, 2: 2}, 2)
        self.assertEqual(most_granted(book, (0, 1, 2), {0: 1, 1: 1, 2: 2})[1], (0, 1, 2))

    def test_corridors(self):
        book, rows, size, start = corridor(60)
        self.assert_most(book, rows, size, start, {k: k + 1 for k in range(59)}, 59)
        self.assert_most(book, rows, size, start, {k: k for k in range(59)}, 59)
        self.assert_most(book, rows, size, start, {k: k + 1 if k < 20 else k for k in range(59)}, 39)
        self.assert_most(book, rows, size, start, {k: k + 1 if k < 40 else k for k in range(59)}, 40)
        self.assert_most(book, rows, size, start, {k: k if k < 20 else k + 1 for k in range(59)}, 59)

    def test_all_slots_of_a_timetable_after_many_moves(self):
        random = Random(52)
        for name, book, rows, size, start in long_books(52):
            with self.subTest(name):
                other = wandered(random, book, rows, size, start, 3000)
                self.assertEqual(most_granted(book, start, dict(enumerate(other))), (len(rows), other))

    def test_books_of_forty_slots(self):
        random = Random(53)
        for _ in range(30):
            slots = random.sample(range(40), 39)
            rows = [sorted({slot, *random.choices(range(40), k=random.choice((1, 2, 5)))}) for slot in slots]
            wishes = {k: random.choice(row) for k, row in enumerate(rows)}
            self.assert_most(Book(40, rows), rows, 40, tuple(slots), wishes)

    def test_as_many_as_a_cheapest_timetable_shows(self):
        random = Random(54)
        for name, book, rows, size, start in long_books(54, fewest_free=0):
            wishes = {k: random.choice(row) for k, row in enumerate(rows)}
            costs = [[-1 if slot == wishes[k] else 0 for slot in row] for k, row in enumerate(rows)]
            self.assert_most(book, rows, size, start, wishes, -cheapest(book, start, costs)[0])

    def test_order_of_the_keys(self):
        for wishes in ({0: 1, 1: 1, 2: 3}, {0: 0, 1: 1, 2: 1}, {5: 6, 3: 5, 0: 1}):
            answers = [most_granted(MIXED, MIXED_START, dict(items)) for items in permutations(wishes.items())]
            self.assertEqual(answers, answers[:1] * len(answers))

    def test_no_wish(self):
        for value in [1, [(0, 1)], ((0, 1),), *no_integers()]:
            if not isinstance(value, dict):
                self.assert_keeps(NoWish, "key", None, most_granted, BOOK, START, value)
        for key in (-1, 3, 4, 10 ** 5000, True, None, "", "0", (), (0,), (0, 1), b"0"):
            self.assert_keeps(NoWish, "key", key, most_granted, BOOK, START, {2: 3, key: 1, -9: None})
        for value in [-1, 4, 5, 60, 10 ** 5000, *no_integers()]:
            self.assert_keeps(NoWish, "key", 1, most_granted, BOOK, START, {2: 3, 1: value, 0: value})

    def test_no_timetable(self):
        for wishes in ({}, {0: 1}, None, {9: 9}, Odd()):
            self.assert_no_timetables(most_granted, wishes)
