"""Options: the slots to which an appointment can be brought, and the place for a new appointment."""

from reslot.answers import is_answer, led_to
from reslot.books import check_timetable
from reslot.errors import Frozen, NoBook, NoCertificate, NoSlot, NotAllowed
from reslot.kinds import is_below, is_slot_list
from reslot.opening import check_tight
from reslot.ways import closed_slots, steps_along, ways_out


def options(book, timetable, appointment):
    """Return the ascending list of the slots to which moves can bring the appointment."""
    check_timetable(book, timetable)
    row = book.allowed(appointment)
    ways = ways_out(book, timetable)
    if timetable[appointment] not in ways:
        return [timetable[appointment]]
    return [slot for slot in row if slot in ways]


def bring(book, timetable, appointment, slot):
    """Return a shortest list of moves after which the appointment is in the slot."""
    check_timetable(book, timetable)
    row = book.allowed(appointment)
    if not is_below(slot, book.size()):
        raise NoSlot(slot)
    if slot not in row:
        raise NotAllowed(slot)
    if timetable[appointment] == slot:
        return []
    ways = ways_out(book, timetable)
    if slot not in ways:
        raise Frozen(closed_slots(book, ways))
    # Where the way meets the appointment itself, this one steps aside first, and moves twice.
    return steps_along(ways, slot) + [(appointment, slot)]


def insert(book, timetable, allowed):
    """Return ("placed", steps, slot), or ("full", slots) if a new appointment finds no slot."""
    _check_new(book, timetable, allowed)
    ways = ways_out(book, timetable)
    for slot in ways:
        # The ways name the nearest slots first.
        if slot in allowed:
            return ("placed", steps_along(ways, slot), slot)
    return ("full", closed_slots(book, ways))


def check_insert(book, timetable, allowed, answer):
    """Raise NoCertificate unless the answer is a correct one to insert."""
    _check_new(book, timetable, allowed)
    if is_answer(answer, "placed", 3) and isinstance(answer[1], list):
        _check_placed(book, timetable, allowed, answer[1], answer[2])
    elif is_answer(answer, "full", 2) and isinstance(answer[1], tuple):
        _check_full(book, timetable, allowed, answer[1])
    else:
        raise NoCertificate(-1)


def _check_new(book, timetable, allowed):
    check_timetable(book, timetable)
    if not is_slot_list(allowed, book.size()):
        raise NoBook(len(book))


def _check_placed(book, timetable, allowed, steps, slot):
    later = led_to(book, timetable, steps)
    # The kind goes first: True is equal to 1.
    if not is_below(slot, book.size()) or slot not in allowed or slot in later:
        raise NoCertificate(len(steps))


def _check_full(book, timetable, allowed, slots):
    check_tight(book, timetable, slots)
    for index, slot in enumerate(allowed):
        if slot not in slots:
            raise NoCertificate(2 * len(slots) + index)
