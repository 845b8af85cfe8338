"""[4], [18], [19], [20] The least number of moves, plans, and their checks."""

from itertools import permutations
from random import Random

from reslot.books import Book
from reslot.errors import NoCertificate
from reslot.moves import moved, reached
from reslot.opening import check_tight
from reslot.plans import check_plan, least, plan
from tests.helper import (BOOK, START, Raises, all_timetables, corridor, distances, mixed_books, no_integers, played,
                          small_books, some_timetables)


def differing(one, other):
    return [k for k, slot in enumerate(one) if slot != other[k]]


def count_cycles(one, other):
    """The number of cycles: of their smallest appointments, found from each appointment alone."""
    smallest = 0
    for first in differing(one, other):
        cycle = [first]
        while other[cycle[-1]] in one and one.index(other[cycle[-1]]) not in cycle:
            cycle.append(one.index(other[cycle[-1]]))
        smallest += other[cycle[-1]] == one[first] and min(cycle) == first
    return smallest


def small_starts():
    """(book, rows, size, one, valid): small books with one timetable and some of the valid ones."""
    for book, rows, size in small_books():
        valid = all_timetables(size, rows)
        for one in valid:
            yield book, rows, size, one, valid
    random = Random(18)
    for book, rows, size, one in mixed_books(18, 400):
        yield book, rows, size, one, some_timetables(random, size, rows, one, 40)


def ring(many, exit_from, size=None):
    """A book whose first appointments may use their own slot and the next one, around; then a corridor to a free slot.

    Of the ring only the appointment `exit_from` may use the first slot of the corridor.
    """
    rows = [sorted({k, (k + 1) % many}) for k in range(many)]
    rows[exit_from] = sorted({*rows[exit_from], many})
    size = many + 1 if size is None else size
    rows += [[k, k + 1] for k in range(many, size - 1)]
    return Book(size, rows), rows, size, tuple(range(size - 1))


def turned(one, many):
    """The timetable in which the first appointments have gone around by one slot."""
    return one[1:many] + one[:1] + one[many:]


class Least(Raises):
    def test_against_the_shortest_list_of_moves(self):
        for book, rows, size, one, valid in small_starts():
            found = distances(size, rows, one)
            for other in valid:
                number = least(book, one, other)
                self.assertIs(type(number), int)
                self.assertEqual(number, len(differing(one, other)) + count_cycles(one, other))
                if other in found:
                    self.assertLessEqual(number, found[other])
                    if count_cycles(one, other) == 0:
                        self.assertEqual(number, found[other])

    def test_equal_timetables(self):
        self.assertEqual(least(BOOK, START, START), 0)
        self.assertEqual(least(Book(3, []), (), ()), 0)

    def test_chains(self):
        book = Book(8, [list(range(8))] * 5)
        self.assertEqual(least(book, (0, 1, 2, 3, 4), (1, 2, 3, 4, 5)), 5)
        self.assertEqual(least(book, (0, 1, 2, 3, 4), (5, 0, 1, 2, 3)), 5)
        self.assertEqual(least(book, (0, 1, 2, 3, 4), (1, 5, 2, 4, 7)), 4)

    def test_one_cycle(self):
        book = Book(60, [list(range(60))] * 60)
        start = tuple(range(60))
        for many in (2, 3, 4, 5, 30, 60):
            self.assertEqual(least(book, start, turned(start, many)), many + 1)
            self.assertEqual(least(book, turned(start, many), start), many + 1)

    def test_several_cycles(self):
        book = Book(9, [list(range(9))] * 8)
        self.assertEqual(least(book, (0, 1, 2, 3, 4, 5, 6, 7), (1, 0, 3, 2, 5, 4, 7, 6)), 8 + 4)
        self.assertEqual(least(book, (0, 1, 2, 3, 4, 5, 6, 7), (2, 0, 1, 3, 7, 4, 5, 6)), 7 + 2)

    def test_cycles_and_chains(self):
        book = Book(9, [list(range(9))] * 7)
        self.assertEqual(least(book, (0, 1, 2, 3, 4, 5, 6), (2, 8, 0, 4, 7, 6, 5)), 7 + 2)
        self.assertEqual(least(book, (4, 1, 2, 3, 0, 5, 6), (0, 1, 3, 8, 4, 7, 5)), 6 + 1)

    def test_timetables_that_are_not_reached(self):
        self.assertEqual(least(Book(2, [[0, 1], [0, 1]]), (0, 1), (1, 0)), 3)

    def test_no_timetable(self):
        self.assert_no_two_timetables(least)


class Plan(Raises):
    def assert_plan(self, book, rows, size, one, other):
        word, steps = plan(book, one, other)
        self.assertEqual(word, "plan")
        self.assertIs(type(steps), list)
        self.assertEqual({type(step) for step in steps}, {tuple} if steps else set())
        self.assertEqual(played(size, rows, one, steps), other)
        self.assertEqual(moved(book, one, steps), other)
        least_moves, cycles = len(differing(one, other)), count_cycles(one, other)
        self.assertLessEqual(len(steps), least_moves + cycles * (2 * size + 1))
        if cycles == 0:
            self.assertEqual(len(steps), least_moves)
        self.assertIsNone(check_plan(book, one, other, ("plan", steps)))
        return len(steps)

    def assert_frozen(self, book, one, other, appointment, slots):
        answer = plan(book, one, other)
        self.assertEqual(answer, ("frozen", appointment, slots))
        self.assertEqual([type(item) for item in answer], [str, int, tuple])
        self.assertIsNone(check_plan(book, one, other, answer))

    def test_against_a_plain_search(self):
        for book, rows, size, one, valid in small_starts():
            found = reached(book, one)
            fixed = [k for k, slot in enumerate(one) if all(other[k] == slot for other in found)]
            closed = tuple(slot for slot in range(size) if all(slot in other for other in found))
            for other in valid:
                if other in found:
                    self.assert_plan(book, rows, size, one, other)
                else:
                    smallest = [k for k in differing(one, other) if k in fixed][0]
                    self.assert_frozen(book, one, other, smallest, closed)

    def test_equal_timetables(self):
        self.assertEqual(plan(BOOK, START, START), ("plan", []))
        self.assertEqual(plan(Book(3, []), (), ()), ("plan", []))
        full = Book(60, [list(range(60))] * 60)
        self.assertEqual(plan(full, tuple(range(60)), tuple(range(60))), ("plan", []))

    def test_smallest_frozen_appointment_that_differs(self):
        book = Book(7, [[0, 6], [1, 2], [1, 2], [3, 4], [3, 4], [5]])
        one = (0, 1, 2, 3, 4, 5)
        self.assert_frozen(book, one, (6, 1, 2, 4, 3, 5), 3, (1, 2, 3, 4, 5))
        self.assert_frozen(book, one, (6, 2, 1, 4, 3, 5), 1, (1, 2, 3, 4, 5))
        self.assert_frozen(book, one, (0, 2, 1, 3, 4, 5), 1, (1, 2, 3, 4, 5))
        self.assert_plan(book, [book.allowed(k) for k in range(6)], 7, one, (6, 1, 2, 3, 4, 5))

    def test_full_book_of_sixty_slots(self):
        book, start = Book(60, [list(range(60))] * 60), tuple(range(60))
        self.assert_frozen(book, start, turned(start, 60), 0, start)
        self.assert_frozen(book, start, start[:58] + (59, 58), 58, start)

    def test_chains_of_sixty_slots(self):
        book, rows, size, start = corridor(60)
        later = tuple(range(1, 60))
        self.assertEqual(self.assert_plan(book, rows, size, start, later), 59)
        self.assertEqual(self.assert_plan(book, rows, size, later, start), 59)
        half = (*range(30), *range(31, 60))
        self.assertEqual(self.assert_plan(book, rows, size, start, half), 29)
        self.assertEqual(self.assert_plan(book, rows, size, later, half), 30)

    def test_cycles_with_one_way_out(self):
        for many in (2, 3, 5, 8):
            for exit_from in range(many):
                for size in (many + 1, many + 2, many + 5):
                    book, rows, size, one = ring(many, exit_from, size)
                    other = turned(one, many)
                    self.assert_plan(book, rows, size, one, other)
                    self.assert_plan(book, rows, size, other, one)

    def test_free_slot_far_away(self):
        # Only appointment 2 can help the two that change places, and only after all behind it have gone on.
        rows = [[0, 1], [0, 1, 2]] + [[k, k + 1] for k in range(2, 59)]
        book, one = Book(60, rows), tuple(range(59))
        self.assert_plan(book, rows, 60, one, (1, 0, *range(2, 59)))
        self.assert_plan(book, rows, 60, (1, 0, *range(2, 59)), one)
        # The cycle and the chain behind it.
        self.assert_plan(book, rows, 60, one, (1, 0, *range(3, 60)))
        self.assert_plan(book, rows, 60, (1, 0, *range(3, 60)), one)

    def test_long_cycle_far_from_the_free_slot(self):
        for many in (30, 58, 59):
            for exit_from in (0, many // 2, many - 1):
                book, rows, size, one = ring(many, exit_from, 60)
                self.assert_plan(book, rows, size, one, turned(one, many))

    def test_long_cycle_of_all_appointments(self):
        book, rows, one = Book(60, [list(range(60))] * 59), [list(range(60))] * 59, tuple(range(59))
        self.assert_plan(book, rows, 60, one, turned(one, 59))
        self.assert_plan(book, rows, 60, turned(one, 59), one)

    def test_many_cycles_along_a_corridor(self):
        # Appointments 2k and 2k + 1 change places; each can be helped by the next pair only.
        rows = [[k - k % 2, k - k % 2 + 1] for k in range(58)] + [[58, 59]]
        rows = [sorted({*row, k + 1}) for k, row in enumerate(rows)]
        book, one = Book(60, rows), tuple(range(59))
        other = (*(k + 1 - 2 * (k % 2) for k in range(58)), 58)
        self.assertEqual(count_cycles(one, other), 29)
        self.assert_plan(book, rows, 60, one, other)
        self.assert_plan(book, rows, 60, other, one)
        self.assert_plan(book, rows, 60, one, (*other[:58], 59))

    def test_random_books_of_sixty_slots(self):
        random = Random(19)
        words = []
        for _ in range(60):
            free = random.choice((1, 1, 2, 10))
            slots = random.sample(range(60), 60)
            one, other = list(slots[free:]), list(slots[free:])
            random.shuffle(other)
            if random.random() < 0.5:
                other = [*other[:-1], slots[0]]
            rows = [sorted({one[k], other[k], *random.choices(range(60), k=random.randint(0, 2))})
                    for k in range(len(one))]
            rows[0] = sorted({*rows[0], *slots[:random.choice((0, free, free))]})
            book, one, other = Book(60, rows), tuple(one), tuple(other)
            answer = plan(book, one, other)
            words.append(answer[0])
            if answer[0] == "plan":
                self.assert_plan(book, rows, 60, one, other)
            self.assertIsNone(check_plan(book, one, other, answer))
        self.assertGreater(words.count("plan"), 5)
        self.assertGreater(words.count("frozen"), 5)

    def test_no_timetable(self):
        self.assert_no_two_timetables(plan)


class CheckPlan(Raises):
    book = Book(6, [[0, 1, 5], [0, 1], [2, 3], [2, 3], [4]])
    one = (0, 1, 2, 3, 4)
    moves_away = (5, 0, 2, 3, 4)
    never = (1, 0, 3, 2, 4)

    def assert_wrong(self, index, other, answer):
        self.assert_raises(NoCertificate, "index", index, check_plan, self.book, self.one, other, answer)

    def test_own_answers_in_small_books(self):
        for book, rows, size, one, valid in small_starts():
            for other in valid:
                self.assertIsNone(check_plan(book, one, other, plan(book, one, other)))

    def test_an_answer_is_never_correct_both_ways(self):
        for book, rows, size, one, valid in small_starts():
            for other in valid:
                word, *rest = plan(book, one, other)
                for third in valid:
                    if third != other and word == "plan":
                        self.assert_raises(NoCertificate, "index", len(rest[0]), check_plan, book, one, third,
                                           (word, *rest))
                if word == "frozen":
                    self.assert_raises(NoCertificate, "index", 0, check_plan, book, one, other, ("plan", []))

    def test_longer_lists_of_moves(self):
        for steps in ([(0, 5), (1, 0)], [(0, 5), (1, 0), (1, 1), (1, 0)],
                      [(0, 5), (0, 0), (0, 5), (1, 0), (0, 1), (0, 5)]):
            self.assertIsNone(check_plan(self.book, self.one, self.moves_away, ("plan", steps)))
        self.assertIsNone(check_plan(self.book, self.one, self.one, ("plan", [(0, 5), (0, 0)])))
        self.assertIsNone(check_plan(self.book, self.one, self.one, ("plan", [])))

    def test_any_tight_set_with_a_differing_appointment(self):
        for slots in [*permutations((2, 3)), *permutations((2, 3, 4))]:
            for appointment in (2, 3):
                self.assertIsNone(check_plan(self.book, self.one, self.never, ("frozen", appointment, slots)))

    def test_other_kinds(self):
        wrong = [1, "plan", "frozen", [], ["plan", []], {"plan": []}, (), ("plan",), ("frozen",), ("plan", [], []),
                 ("plan", [], ()), ("plan", ()), ("plan", None), ("plan", "steps"), ("plan", {}), ("plan", ((0, 5),)),
                 ("frozen", 2), ("frozen", (2, 3)), ("frozen", 2, [2, 3]), ("frozen", 2, None), ("frozen", 2, {2, 3}),
                 ("frozen", 2, (2, 3), 0), ("frozen", [], (2, 3), []), ("frozen", []), ("plan", 2, (2, 3)),
                 ("Plan", []), ("plans", []), ("moves", []), ("", []), (None, []), (True, []), (0, []),
                 (["plan"], []), (("plan",), []), (b"plan", []), ("full", 2, (2, 3)), (None, 2, (2, 3)),
                 (True, 2, (2, 3)), (["frozen"], 2, (2, 3)), (b"frozen", 2, (2, 3)), ("plan", [], 2, (2, 3))]
        wrong += [value for value in no_integers()]
        wrong += [(value, []) for value in no_integers()] + [(value, 2, (2, 3)) for value in no_integers()]
        wrong += [("plan", value) for value in no_integers() if not isinstance(value, list)]
        wrong += [("frozen", 2, value) for value in no_integers() if not isinstance(value, tuple)]
        for number, answer in enumerate(wrong):
            for other in (self.one, self.moves_away, self.never):
                with self.subTest(number):
                    self.assert_wrong(-1, other, answer)

    def test_impossible_moves(self):
        self.assert_wrong(0, self.moves_away, ("plan", [(1, 0)]))
        self.assert_wrong(1, self.moves_away, ("plan", [(0, 5), (2, 0), (9, 9)]))
        self.assert_wrong(2, self.moves_away, ("plan", [(0, 5), (1, 0), (0, 0)]))
        self.assert_wrong(2, self.moves_away, ("plan", [(0, 5), (1, 0), (1, 0)]))
        self.assert_wrong(1, self.moves_away, ("plan", [(0, 5), (True, 0)]))
        self.assert_wrong(1, self.moves_away, ("plan", [(0, 5), (1, False)]))
        self.assert_wrong(1, self.moves_away, ("plan", [(0, 5), [1, 0]]))
        for value in no_integers():
            if not isinstance(value, tuple):
                self.assert_wrong(2, self.moves_away, ("plan", [(0, 5), (1, 0), value]))
            self.assert_wrong(1, self.moves_away, ("plan", [(0, 5), (value, 0)]))
            self.assert_wrong(1, self.moves_away, ("plan", [(0, 5), (1, value)]))

    def test_moves_to_a_different_timetable(self):
        self.assert_wrong(0, self.moves_away, ("plan", []))
        self.assert_wrong(1, self.moves_away, ("plan", [(0, 5)]))
        self.assert_wrong(3, self.moves_away, ("plan", [(0, 5), (1, 0), (1, 1)]))
        self.assert_wrong(1, self.one, ("plan", [(0, 5)]))
        self.assert_wrong(0, self.never, ("plan", []))

    def test_no_tight_set(self):
        for value in [-1, 5, 6, 60, *no_integers()]:
            self.assert_wrong(0, self.never, ("frozen", 2, (value,)))
            self.assert_wrong(2, self.never, ("frozen", 2, (2, 3, value, value)))
        self.assert_wrong(2, self.never, ("frozen", 2, (2, 3, 3)))
        self.assert_wrong(1, self.never, ("frozen", 2, (2,)))
        self.assert_wrong(3 + 2, self.never, ("frozen", 2, (2, 3, 0)))
        self.assert_wrong(3 + 0, self.never, ("frozen", 2, (1, 2, 3)))
        self.assert_wrong(4 + 1, self.never, ("frozen", 2, (4, 0, 3, 2)))

    def test_no_tight_set_goes_before_the_appointment(self):
        for appointment in (0, 4, 9, None):
            self.assert_wrong(1, self.never, ("frozen", appointment, (2, 2)))
            self.assert_wrong(1 + 0, self.never, ("frozen", appointment, (2,)))

    def test_no_appointment(self):
        for value in [-1, -2, 5, 6, 60, 10 ** 5000, *no_integers()]:
            with self.subTest(type(value)):
                self.assert_wrong(4, self.never, ("frozen", value, (2, 3)))
                self.assert_wrong(6, self.never, ("frozen", value, (4, 3, 2)))

    def test_bools_are_no_appointments(self):
        book = Book(2, [[0, 1], [0, 1]])
        self.assertIsNone(check_plan(book, (0, 1), (1, 0), ("frozen", 1, (0, 1))))
        self.assertIsNone(check_plan(book, (0, 1), (1, 0), ("frozen", 0, (0, 1))))
        for value in (True, False):
            self.assert_raises(NoCertificate, "index", 4, check_plan, book, (0, 1), (1, 0), ("frozen", value, (0, 1)))

    def test_appointment_outside_of_the_set(self):
        self.assert_wrong(4, self.never, ("frozen", 0, (2, 3)))
        self.assert_wrong(4, self.never, ("frozen", 4, (2, 3)))
        self.assert_wrong(0, self.never, ("frozen", 2, ()))
        self.assert_wrong(2, self.never, ("frozen", 2, (4,)))

    def test_appointment_with_the_same_slot(self):
        self.assert_wrong(6, self.never, ("frozen", 4, (2, 3, 4)))
        self.assert_wrong(2, self.never, ("frozen", 4, (4,)))
        self.assert_wrong(4, self.moves_away, ("frozen", 2, (2, 3)))
        self.assert_wrong(4, self.one, ("frozen", 3, (3, 2)))

    def test_set_of_the_first_timetable(self):
        # Slot 1 is occupied in the second timetable only.
        book = Book(3, [[0, 1], [2]])
        self.assert_raises(NoCertificate, "index", 0, check_plan, book, (0, 2), (1, 2), ("frozen", 0, (1,)))
        self.assertIsNone(check_tight(book, (0, 2), (2,)))

    def test_no_timetable(self):
        self.assert_no_two_timetables(check_plan, ("plan", []))

    def test_no_timetable_goes_first(self):
        for answer in (None, ("plan", [None]), ("frozen", 9, (9,)), ("plan", [(9, 9)])):
            self.assert_no_two_timetables(check_plan, answer)


class ReachedOrFrozen(Raises):
    def test_either_a_plan_or_a_frozen_appointment(self):
        """[4] Exactly one of the two kinds of answers is correct."""
        for book, rows, size, one in mixed_books(4, 300, most_slots=5):
            tables = all_timetables(size, rows)
            found = distances(size, rows, one)
            for other in tables:
                word, *rest = plan(book, one, other)
                self.assertEqual(word, "plan" if other in found else "frozen")
                self.assertIsNone(check_plan(book, one, other, (word, *rest)))
                if word == "frozen":
                    self.assertIsNone(check_tight(book, one, rest[1]))
                    self.assertNotEqual(one[rest[0]], other[rest[0]])
                    self.assertIn(one[rest[0]], rest[1])
