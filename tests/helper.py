"""What several test files need: wrong values, small books, and a second way to find what is reached."""

from itertools import combinations, product

from reslot.books import Book


class Odd:
    """An object that is no value of the program, and that does not answer when it is compared."""

    __hash__ = None

    def __eq__(self, other):
        raise AssertionError("compared")


class Everything:
    """An object that says it is equal to everything."""

    __hash__ = None

    def __eq__(self, other):
        return True


def deep_list(depth=100000):
    """A list in a list in a list, too deep to be shown."""
    rows = []
    for _ in range(depth):
        rows = [rows]
    return rows


def no_integers():
    """Values of many kinds, none of them an integer."""
    return [None, True, False, "", "0", "a text", (), (0,), (0, 1), [], [0], [[0]], {}, {0: 1}, {0}, b"", b"0",
            object(), Odd(), Everything(), int, deep_list()]


def raised(call, *args, **more):
    """The error that the call raises, or None."""
    try:
        call(*args, **more)
    except ValueError as error:
        return error
    return None


def all_timetables(size, rows):
    """Every valid timetable, ascending, found without the program."""
    return [slots for slots in product(*rows) if len(set(slots)) == len(slots)]


def step_between(one, other):
    """The move between two valid timetables, or None: they differ for exactly one appointment."""
    changed = [(k, slot) for k, slot in enumerate(other) if one[k] != slot]
    return changed[0] if len(changed) == 1 else None


def component(tables, start):
    """The ascending timetables that single changes connect with the start, found without the program."""
    inside = {start}
    grown = True
    while grown:
        more = {t for t in tables if t not in inside and any(step_between(t, other) for other in inside)}
        grown = bool(more)
        inside |= more
    return sorted(inside)


def small_books():
    """(book, rows, size) for every book of at most 3 slots and at most 3 appointments, and some of 4 slots."""
    for size, longest in ((1, 3), (2, 3), (3, 3), (4, 2)):
        kinds = [list(row) for many in range(1, size + 1) for row in combinations(range(size), many)]
        for many in range(longest + 1):
            for rows in product(kinds, repeat=many):
                yield Book(size, list(rows)), list(rows), size
