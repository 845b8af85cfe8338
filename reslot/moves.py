"""Moves: one appointment goes to a free slot that it may use."""

from reslot.books import check_timetable
from reslot.errors import NoMove, TooMany
from reslot.kinds import is_below, is_whole


def free_slots(book, timetable):
    """Return the ascending list of the free slots."""
    check_timetable(book, timetable)
    occupied = set(timetable)
    return [slot for slot in range(book.size()) if slot not in occupied]


def moves(book, timetable):
    """Return the ascending list of all possible moves."""
    check_timetable(book, timetable)
    return _possible_moves(_allowed_slots(book), timetable)


def moved(book, timetable, steps):
    """Return the timetable after the moves, one after the other."""
    check_timetable(book, timetable)
    if not isinstance(steps, list):
        raise NoMove(-1)
    places = list(timetable)
    for index, step in enumerate(steps):
        if not _is_possible(book, places, step):
            raise NoMove(index)
        appointment, slot = step
        places[appointment] = slot
    return tuple(places)


def reached(book, timetable, *, most=1000):
    """Return the ascending list of all timetables that moves lead to, this one included."""
    check_timetable(book, timetable)
    rows = _allowed_slots(book)
    found = set()
    found.add(timetable)
    waiting = [timetable]
    while waiting:
        # Asked before each further one, so that a book with far too many timetables ends early.
        if len(found) > most:
            raise TooMany(most)
        current = waiting.pop()
        for appointment, slot in _possible_moves(rows, current):
            later = current[:appointment] + (slot,) + current[appointment + 1:]
            if later not in found:
                found.add(later)
                waiting.append(later)
    return sorted(found)


def _allowed_slots(book):
    return [book.allowed(appointment) for appointment in range(len(book))]


def _possible_moves(rows, timetable):
    occupied = set(timetable)
    return [(appointment, slot) for appointment, row in enumerate(rows) for slot in row if slot not in occupied]


def _is_possible(book, places, step):
    if not isinstance(step, tuple) or len(step) != 2:
        return False
    appointment, slot = step
    if not is_below(appointment, len(book)) or not is_whole(slot):
        return False
    return slot not in places and slot in book.allowed(appointment)
