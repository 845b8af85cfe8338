"""Open slots and frozen appointments, and the tight sets that show why these are frozen."""

from reslot.books import check_timetable
from reslot.errors import Frozen, NoCertificate, NoSlot
from reslot.kinds import is_below
from reslot.ways import closed_slots, steps_along, ways_out


def open_slots(book, timetable):
    """Return the ascending list of the open slots: those that moves can make free."""
    check_timetable(book, timetable)
    return sorted(ways_out(book, timetable))


def frozen(book, timetable):
    """Return the ascending tuple of the appointments that can never move."""
    check_timetable(book, timetable)
    ways = ways_out(book, timetable)
    return tuple([appointment for appointment, slot in enumerate(timetable) if slot not in ways])


def check_tight(book, timetable, slots):
    """Raise NoCertificate unless the slots are a tight set: their appointments may use no other slot."""
    check_timetable(book, timetable)
    fault = tight_fault(book, timetable, slots)
    if fault is not None:
        raise NoCertificate(fault)


def tight_fault(book, timetable, slots):
    """Return the index of NoCertificate for the slots, or None if they are a tight set."""
    if not isinstance(slots, tuple):
        return -1
    owners = {slot: appointment for appointment, slot in enumerate(timetable)}
    inside = set()
    for index, slot in enumerate(slots):
        # The kind goes first: True is equal to 1, and a list cannot be in a set.
        if not is_below(slot, book.size()) or slot not in owners or slot in inside:
            return index
        inside.add(slot)
    leaving = 0
    for slot, users in enumerate(book.users()):
        if slot not in inside:
            leaving |= users
    for index, slot in enumerate(slots):
        if leaving >> owners[slot] & 1:
            return len(slots) + index
    return None


def vacated(book, timetable, slot):
    """Return a shortest list of moves after which the slot is free."""
    check_timetable(book, timetable)
    if not is_below(slot, book.size()):
        raise NoSlot(slot)
    ways = ways_out(book, timetable)
    if slot not in ways:
        raise Frozen(closed_slots(book, ways))
    return steps_along(ways, slot)
