"""What several test files need: wrong values, books of many shapes, and a search move by move."""

import sys
import unittest
from itertools import combinations, product
from random import Random

from reslot.books import Book
from reslot.errors import NoTimetable

BOOK = Book(4, [[0, 1], [1, 2], [3]])
START = (0, 1, 3)
NO_TIMETABLES = ((-1, [0, 1, 3]), (-1, None), (-1, (0, 1)), (0, (2, 1, 3)), (0, (False, 1, 3)), (1, (1, 1, 3)),
                 (2, (0, 1, [])), (-1, "013"), (-1, {}))


class Odd:
    """An object that is no value of the program, and that does not answer when it is compared."""

    __hash__ = None

    def __eq__(self, other):
        raise AssertionError("compared")


class Everything:
    """An object that says it is equal to everything."""

    __hash__ = None

    def __eq__(self, other):
        return True


def deep_list(depth=100000):
    """A list in a list in a list, too deep to be shown."""
    rows = []
    for _ in range(depth):
        rows = [rows]
    return rows


def no_integers():
    """Values of many kinds, none of them an integer."""
    return [None, True, False, "", "0", "a text", (), (0,), (0, 1), [], [0], [[0]], {}, {0: 1}, {0}, b"", b"0",
            object(), Odd(), Everything(), int, deep_list()]


def raised(call, *args, **more):
    """The error that the call raises, or None."""
    try:
        call(*args, **more)
    except ValueError as error:
        return error
    return None


class Raises(unittest.TestCase):
    def assert_raises(self, kind, field, value, call, *args, **more):
        error = raised(call, *args, **more)
        self.assertIs(type(error), kind)
        self.assertIs(type(getattr(error, field)), type(value))
        self.assertEqual(getattr(error, field), value)

    def assert_keeps(self, kind, field, value, call, *args):
        """The error keeps the very value; it may be one that cannot be compared."""
        error = raised(call, *args)
        self.assertIs(type(error), kind)
        self.assertIs(getattr(error, field), value)

    def assert_no_timetables(self, call, *rest):
        for index, timetable in NO_TIMETABLES:
            with self.subTest(timetable):
                self.assert_raises(NoTimetable, "index", index, call, BOOK, timetable, *rest)

    def assert_no_two_timetables(self, call, *rest):
        """For a call with two timetables: an error for the first one goes before one for the second."""
        for index, timetable in NO_TIMETABLES:
            with self.subTest(timetable):
                self.assert_raises(NoTimetable, "index", index, call, BOOK, timetable, START, *rest)
                self.assert_raises(NoTimetable, "index", index, call, BOOK, START, timetable, *rest)
                for second in ((0, 1, 1), (), None):
                    self.assert_raises(NoTimetable, "index", index, call, BOOK, timetable, second, *rest)


def all_timetables(size, rows):
    """Every valid timetable, ascending, found without the program."""
    return [slots for slots in product(*rows) if len(set(slots)) == len(slots)]


def step_between(one, other):
    """The move between two valid timetables, or None: they differ for exactly one appointment."""
    changed = [(k, slot) for k, slot in enumerate(other) if one[k] != slot]
    return changed[0] if len(changed) == 1 else None


def component(tables, start):
    """The ascending timetables that single changes connect with the start, found without the program."""
    inside = {start}
    grown = True
    while grown:
        more = {t for t in tables if t not in inside and any(step_between(t, other) for other in inside)}
        grown = bool(more)
        inside |= more
    return sorted(inside)


def small_books():
    """(book, rows, size) for every book of at most 3 slots and at most 3 appointments, and some of 4 slots."""
    for size, longest in ((1, 3), (2, 3), (3, 3), (4, 2)):
        kinds = [list(row) for many in range(1, size + 1) for row in combinations(range(size), many)]
        for many in range(longest + 1):
            for rows in product(kinds, repeat=many):
                yield Book(size, list(rows)), list(rows), size


def next_timetables(size, rows, timetable):
    """Every timetable that is one possible move away, found without the program."""
    free = [slot for slot in range(size) if slot not in timetable]
    return [timetable[:k] + (slot,) + timetable[k + 1:] for k, row in enumerate(rows) for slot in free if slot in row]


def distances(size, rows, start, most=10 ** 9):
    """{timetable: fewest moves from the start} of all that is reached, or None if that are more than most."""
    found = {start: 0}
    layer = [start]
    while layer:
        further = []
        for timetable in layer:
            for later in next_timetables(size, rows, timetable):
                if later not in found:
                    found[later] = found[timetable] + 1
                    further.append(later)
        if len(found) > most:
            return None
        layer = further
    return found


def played(size, rows, timetable, steps):
    """The timetable after the moves, each of them possible at its turn; found without the program."""
    for appointment, slot in steps:
        assert 0 <= appointment < len(rows) and slot in rows[appointment] and slot not in timetable, (timetable, steps)
        timetable = timetable[:appointment] + (slot,) + timetable[appointment + 1:]
    return timetable


def mixed_books(seed, many, most_slots=6, fewest_slots=1):
    """(book, rows, size, timetable) for books of many shapes, from nearly empty to full, with rows short or long."""
    random = Random(seed)
    for _ in range(many):
        size = random.randint(fewest_slots, most_slots)
        start = tuple(random.sample(range(size), size - min(size, random.choice((0, 1, 1, 1, 2, 2, 3, size)))))
        longest = random.choice((1, 2, 2, 3, size))
        rows = [sorted({slot, *random.choices(range(size), k=random.randint(0, longest))}) for slot in start]
        yield Book(size, rows), rows, size, start


def some_timetables(random, size, rows, start, many):
    """At most so many of the valid timetables of a small book, in no order; the start is one of them."""
    valid = all_timetables(size, rows)
    return {start, *random.sample(valid, min(many, len(valid)))}


def small_timetables(seed):
    """(book, rows, size, timetable) for every timetable of small_books, and for some of mixed_books."""
    for book, rows, size in small_books():
        for timetable in all_timetables(size, rows):
            yield book, rows, size, timetable
    random = Random(seed)
    for book, rows, size, start in mixed_books(seed, 400):
        for timetable in some_timetables(random, size, rows, start, 3):
            yield book, rows, size, timetable


def corridor(size):
    """(book, rows, size, timetable): appointment k may use k and k + 1, and only the last slot is free."""
    rows = [[k, k + 1] for k in range(size - 1)]
    return Book(size, rows), rows, size, tuple(range(size - 1))


def opened_slots(size, rows, timetable):
    """The open slots, found from the definition."""
    opened = set(range(size)) - set(timetable)
    grown = True
    while grown:
        more = {slot for k, slot in enumerate(timetable) if slot not in opened and opened & set(rows[k])}
        grown = bool(more)
        opened |= more
    return opened


def wandered(random, book, rows, size, timetable, many):
    """A timetable after so many random moves."""
    places = list(timetable)
    users = [[k for k, row in enumerate(rows) if slot in row] for slot in range(size)]
    free = [slot for slot in range(size) if slot not in places]
    for _ in range(many if free else 0):
        at = random.randrange(len(free))
        if users[free[at]]:
            k = random.choice(users[free[at]])
            if places[k] != free[at]:
                places[k], free[at] = free[at], places[k]
    return tuple(places)


def long_books(seed, fewest_free=1):
    """(name, book, rows, size, timetable) for books of 60 slots: many shapes, one or more free slots, or none."""
    random = Random(seed)
    for free in (1, 1, 2, 20, 0):
        if free >= fewest_free:
            yield f"all slots, {free} free", *placed_book([list(range(60))] * (60 - free), range(60 - free))
    yield "corridor", *corridor(60)
    yield "corridor, backwards", *placed_book([[k - 1, k] for k in range(1, 60)], range(1, 60))
    yield "band", *placed_book([sorted({max(k - 2, 0), max(k - 1, 0), k, k + 1}) for k in range(59)], range(59))
    yield "triangle", *placed_book([list(range(k + 2)) for k in range(59)], range(59))
    for free in (1, 1, 1, 2, 5, 30, 0):
        for extra in (1, 2, 3, 6, 20):
            if free >= fewest_free:
                start = random.sample(range(60), 60 - free)
                rows = [sorted({slot, *random.choices(range(60), k=random.randint(1, extra))}) for slot in start]
                yield f"random, {free} free, {extra} more", *placed_book(rows, start)


def placed_book(rows, start):
    """(book, rows, size, timetable) of 60 slots."""
    return Book(60, rows), rows, 60, tuple(start)


def lines_run(call):
    """The number of lines that Python runs in the call: a measure of its work that is always the same."""
    many = 0

    def count(frame, event, argument):
        nonlocal many
        many += event == "line"
        return count

    before = sys.gettrace()
    sys.settrace(count)
    try:
        call()
    finally:
        sys.settrace(before)
    return many
