"""[10] What moves reach."""

from itertools import permutations
from random import Random

from reslot.books import Book
from reslot.errors import NoTimetable, TooMany
from reslot.moves import reached
from tests.helper import (BOOK, Raises, all_timetables, component, corridor, distances, lines_run, mixed_books,
                          small_books, some_timetables)


def apart(*sizes):
    """A book of appointments that share no slot, with so many slots each, and its first timetable."""
    rows, first = [], 0
    for size in sizes:
        rows.append(list(range(first, first + size)))
        first += size
    return Book(first, rows), tuple(row[0] for row in rows)


class Limited(Raises):
    def assert_too_many(self, most, book, timetable):
        self.assert_raises(TooMany, "most", most, reached, book, timetable, most=most)

    def assert_reached(self, expected, book, timetable):
        """The list is returned with exactly as many as most, and TooMany is raised with one less."""
        self.assertEqual(reached(book, timetable, most=len(expected)), expected)
        self.assert_too_many(len(expected) - 1, book, timetable)


class Reached(Limited):

    def test_every_small_book(self):
        for book, rows, size in small_books():
            valid = all_timetables(size, rows)
            for timetable in valid:
                expected = component(valid, timetable)
                self.assertEqual(reached(book, timetable), expected)
                self.assertEqual(reached(book, timetable, most=len(expected)), expected)
                self.assert_too_many(len(expected) - 1, book, timetable)

    def test_valid_timetables_that_are_not_reached(self):
        self.assertEqual(reached(Book(3, [[0, 1], [0, 1]]), (0, 1)), [(0, 1)])
        self.assertEqual(reached(Book(4, [[0, 1], [0, 1], [1, 2, 3]]), (1, 0, 2)), [(1, 0, 2), (1, 0, 3)])

    def test_after_several_moves(self):
        book = Book(3, [[0, 1], [0, 1, 2]])
        self.assertEqual(reached(book, (0, 1)), [(0, 1), (0, 2), (1, 0), (1, 2)])

    def test_no_appointments(self):
        self.assertEqual(reached(Book(3, []), ()), [()])

    def test_the_same_from_each_member(self):
        book = Book(6, [[0, 1, 2], [1, 2, 3], [2, 3, 4], [0, 4], [5]])
        found = reached(book, (0, 1, 2, 4, 5))
        self.assertGreater(len(found), 5)
        self.assertEqual(found, sorted(set(found)))
        for timetable in found:
            self.assertEqual(reached(book, timetable), found)

    def test_kinds(self):
        found = reached(BOOK, (0, 1, 3))
        self.assertIs(type(found), list)
        self.assertEqual({type(timetable) for timetable in found}, {tuple})

    def test_most(self):
        book, start = apart(3, 4)
        self.assertEqual(len(reached(book, start, most=12)), 12)
        self.assertEqual(len(reached(book, start, most=13)), 12)
        for most in (11, 6, 1, 0):
            self.assert_too_many(most, book, start)

    def test_most_zero(self):
        self.assert_too_many(0, Book(3, []), ())
        self.assert_too_many(0, Book(1, [[0]]), (0,))
        self.assertEqual(reached(Book(1, [[0]]), (0,), most=1), [(0,)])

    def test_exactly_a_thousand(self):
        book, start = apart(10, 10, 10)
        found = reached(book, start)
        self.assertEqual(found, [(a, b, c) for a in range(10) for b in range(10, 20) for c in range(20, 30)])
        self.assertEqual(reached(book, start, most=1000), found)
        self.assert_too_many(999, book, start)
        book, start = apart(2, 5, 4, 25)
        self.assertEqual(len(reached(book, start)), 1000)

    def test_more_than_a_thousand(self):
        for sizes, many in (((7, 11, 13), 1001), ((2,) * 10, 1024)):
            book, start = apart(*sizes)
            self.assert_raises(TooMany, "most", 1000, reached, book, start)
            self.assert_too_many(many - 1, book, start)
            self.assertEqual(len(reached(book, start, most=many)), many)

    def test_far_too_many(self):
        book = Book(60, [list(range(60))] * 30)
        start = tuple(range(30))
        self.assert_raises(TooMany, "most", 1000, reached, book, start)
        for most in (0, 1, 5000):
            self.assert_too_many(most, book, start)

    def test_sixty_slots_that_are_full(self):
        book = Book(60, [list(range(60))] * 60)
        start = tuple(range(60))
        self.assertEqual(reached(book, start, most=1), [start])

    def test_most_by_keyword_alone(self):
        self.assertRaises(TypeError, reached, BOOK, (0, 1, 3), 1000)

    def test_no_timetable(self):
        self.assert_no_timetables(reached)

    def test_no_timetable_goes_before_too_many(self):
        self.assert_raises(NoTimetable, "index", 0, reached, BOOK, (2, 1, 3), most=0)
        self.assert_raises(NoTimetable, "index", -1, reached, BOOK, [0, 1, 3], most=0)


def shared(random, first, size, many):
    """Rows of so many appointments in slots of their own from first on, with their slots in a timetable."""
    slots = list(range(first, first + size))
    start = random.sample(slots, many)
    return [sorted({slot, *random.choices(slots, k=random.randint(1, 3))}) for slot in start], start


def shuffled(random, size, rows, start):
    """The same book with its appointments and its slots in another order."""
    order = random.sample(range(len(rows)), len(rows))
    names = random.sample(range(size), size)
    rows = [sorted(names[slot] for slot in rows[k]) for k in order]
    return Book(size, rows), rows, tuple(names[start[k]] for k in order)


def grouped_book(random):
    """A book of several sets of slots, each with its own appointments; these share many slots, few, or none."""
    rows, start, size = [], [], 0
    for _ in range(random.randint(1, 4)):
        many = random.choice((1, 1, 2, 2, 3, 4, 5, 6, 7))
        wide = many + random.choice((0, 1, 1, 1, 2))
        more, places = shared(random, size, wide, many)
        rows, start, size = rows + more, start + places, size + wide
    return size, rows, start


def branching_book(random, many):
    """A book of appointments with few slots each, all in one group, and hardly any two ways between two slots."""
    rows, start, size = [], [], 1
    for _ in range(many):
        new = random.choice((1, 1, 1, 2))
        rows.append(sorted({random.randrange(size), *range(size, size + new)}))
        start.append(size)
        size += new
    return size, rows, start


class Apart(Limited):
    """Appointments that share no slots."""

    books = (((1, 24, 1, 30), 720), ((7, 11, 13), 1001), ((10, 10, 10), 1000), ((2,) * 9, 512))

    def test_little_work(self):
        # A search move by move runs from 30000 to 160000 lines here.
        for sizes, many in self.books:
            book, start = apart(*sizes)
            self.assertLess(lines_run(lambda: reached(book, start, most=5000)), 4000)

    def test_first_middle_and_last(self):
        for sizes, many in self.books:
            book, start = apart(*sizes)
            found = reached(book, start, most=5000)
            self.assertEqual(len(found), many)
            self.assertEqual(found, all_timetables(book.size(), [book.allowed(k) for k in range(len(book))]))
            for timetable in (found[0], found[many // 2], found[-1]):
                self.assert_reached(found, book, timetable)

    def test_slots_in_mixed_order(self):
        rows = [[1, 5, 9], [0], [2, 4], [3, 6, 7, 8]]
        found = all_timetables(10, rows)
        for timetable in found:
            self.assert_reached(found, Book(10, rows), timetable)

    def test_beside_frozen_appointments(self):
        rows = [[3, 4], [0, 1], [1, 2, 5], [0, 1], [0, 1, 6, 7]]
        found = [(a, 0, b, 1, c) for a in (3, 4) for b in (2, 5) for c in (6, 7)]
        for timetable in found:
            self.assert_reached(found, Book(8, rows), timetable)

    def test_most_of_sixty_slots_frozen(self):
        rows = [[k] for k in range(58)] + [[57, 58, 59]]
        start = tuple(range(59))
        self.assert_reached([start, (*range(58), 59)], Book(60, rows), start)

    def test_far_too_many(self):
        for sizes in ((2,) * 30, (1,) * 30 + (2,) * 15, (20, 20, 20), (3,) * 20, (1, 1, 58)):
            book, start = apart(*sizes)
            self.assert_too_many(50, book, start)
            self.assert_too_many(0, book, start)


class Shared(Limited):
    """Appointments of which some share slots, against a plain search move by move."""

    def assert_as_searched(self, book, rows, size, timetable, most=1500):
        found = distances(size, rows, timetable, most)
        if found is None:
            self.assert_too_many(most, book, timetable)
            return 0
        expected = sorted(found)
        for start in (timetable, expected[0], expected[len(expected) // 2], expected[-1]):
            self.assert_reached(expected, book, start)
        return len(expected)

    def test_books_of_six_slots(self):
        random = Random(10)
        for book, rows, size, start in mixed_books(10, 500):
            for timetable in some_timetables(random, size, rows, start, 2):
                self.assert_as_searched(book, rows, size, timetable)

    def test_side_by_side(self):
        random = Random(20)
        many = [0]
        for _ in range(100):
            size, rows, start = grouped_book(random)
            many.append(self.assert_as_searched(Book(size, rows), rows, size, tuple(start)))
        self.assertGreater(max(many), 500)

    def test_in_mixed_order(self):
        random = Random(30)
        many = [0]
        for _ in range(150):
            size, rows, start = grouped_book(random)
            book, rows, timetable = shuffled(random, size, rows, start)
            many.append(self.assert_as_searched(book, rows, size, timetable))
        self.assertGreater(max(many), 500)

    def test_few_ways(self):
        random = Random(40)
        for _ in range(150):
            size, rows, start = branching_book(random, random.randint(2, 10))
            book, rows, timetable = shuffled(random, size, rows, start)
            self.assert_as_searched(book, rows, size, timetable)

    def test_many_slots_for_some_and_few_for_others(self):
        # Three of the appointments alone have 120 ways to use these slots, all five together only 96.
        for order in permutations((0, 1, 2, 3, 4)):
            rows = [([0, 1], [0, 1, 2], *[[0, 1, 2, 3, 4, 5]] * 3)[k] for k in order]
            start = tuple((1, 2, 3, 4, 5)[k] for k in order)
            self.assertEqual(self.assert_as_searched(Book(6, rows), rows, 6, start), 96)

    def test_one_after_the_other_in_turn(self):
        rows = [[0, 3], [1, 4], [2, 5, 8], [3, 6], [4, 7], [6, 9], [10, 11], [7, 12]]
        self.assert_as_searched(Book(13, rows), rows, 13, (0, 1, 2, 3, 4, 6, 10, 7))

    def test_joined_by_a_closed_slot_only(self):
        rows = [[0, 2, 3], [0, 1], [1, 4, 5], [0, 1], [1, 3, 6]]
        self.assert_as_searched(Book(7, rows), rows, 7, (2, 0, 4, 1, 3))

    def test_chains_of_two_slots(self):
        for size in (2, 5, 6, 7, 20, 60):
            book, rows, size, start = corridor(size)
            self.assertEqual(self.assert_as_searched(book, rows, size, start), size)

    def test_one_slot_for_all(self):
        rows = [[0, k] for k in range(1, 8)]
        self.assertEqual(self.assert_as_searched(Book(8, rows), rows, 8, tuple(range(1, 8))), 8)

    def test_the_same_slots_for_all(self):
        for many, expected in ((3, 120), (4, 360), (5, 720), (6, 1)):
            rows = [list(range(6))] * many
            self.assertEqual(self.assert_as_searched(Book(6, rows), rows, 6, tuple(range(many))), expected)
        for many, expected in ((2, 56), (3, 336), (6, 0), (7, 0), (8, 1)):
            rows = [list(range(8))] * many
            self.assertEqual(self.assert_as_searched(Book(8, rows), rows, 8, tuple(range(many))), expected)

    def test_far_too_many(self):
        for many in (5, 6, 30, 58, 59):
            book, start = Book(60, [list(range(60))] * many), tuple(range(many))
            for most in (0, 1, 999, 5000):
                self.assert_too_many(most, book, start)
        rows = [[k] for k in range(20)] + [list(range(60))] * 30
        self.assert_too_many(1000, Book(60, rows), tuple(range(50)))
