"""Moves: one appointment goes to a free slot that it may use."""

from reslot.books import check_timetable
from reslot.errors import NoMove, TooMany
from reslot.groups import arranged, groups, placings
from reslot.kinds import is_below
from reslot.ways import unoccupied, ways_out


def free_slots(book, timetable):
    """Return the ascending list of the free slots."""
    check_timetable(book, timetable)
    return unoccupied(book, timetable)


def moves(book, timetable):
    """Return the ascending list of all possible moves."""
    check_timetable(book, timetable)
    rows = [book.allowed(appointment) for appointment in range(len(book))]
    return _possible_moves(rows, timetable)


def moved(book, timetable, steps):
    """Return the timetable after the moves, one after the other."""
    check_timetable(book, timetable)
    if not isinstance(steps, list):
        raise NoMove(-1)
    users = book.users()
    places = list(timetable)
    for index, step in enumerate(steps):
        if not _is_possible(users, places, step):
            raise NoMove(index)
        appointment, slot = step
        places[appointment] = slot
    return tuple(places)


def reached(book, timetable, *, most=1000):
    """Return the ascending list of all timetables that moves lead to, this one included."""
    check_timetable(book, timetable)
    if most < 1:
        raise TooMany(most)
    ways = ways_out(book, timetable)
    order = [appointment for appointment, slot in enumerate(timetable) if slot not in ways]
    tuples = [tuple([timetable[appointment] for appointment in order])]
    for group in groups(book, ways):
        rows = [[slot for slot in book.allowed(appointment) if slot in ways] for appointment in group]
        found = placings(rows, tuple([timetable[appointment] for appointment in group]), most // len(tuples))
        if found is None:
            raise TooMany(most)
        tuples = [before + after for before in tuples for after in found]
        order.extend(group)
    return arranged(tuples, order)


def _possible_moves(rows, timetable):
    occupied = set(timetable)
    return [(appointment, slot) for appointment, row in enumerate(rows) for slot in row if slot not in occupied]


def _is_possible(users, places, step):
    if not isinstance(step, tuple) or len(step) != 2:
        return False
    appointment, slot = step
    if not is_below(appointment, len(places)) or not is_below(slot, len(users)):
        return False
    return slot not in places and users[slot] >> appointment & 1 == 1
