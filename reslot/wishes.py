"""Wishes of appointments for slots: a timetable that fulfils them, or appointments with too few slots."""

from reslot.answers import check_other, is_answer
from reslot.books import check_timetable
from reslot.errors import NoCertificate, NoWish
from reslot.kinds import is_below, is_whole
from reslot.ways import bits, ways_out


def granted(book, timetable, wishes):
    """Return ("granted", other), or ("short", appointments, slots) if no reachable timetable fulfils the wishes."""
    check_timetable(book, timetable)
    check_wishes(book, wishes)
    possible = _possible_slots(book, timetable, wishes)
    holders = {slot: appointment for appointment, slot in enumerate(timetable) if possible[appointment] >> slot & 1}
    for appointment, slot in enumerate(timetable):
        if not possible[appointment] >> slot & 1:
            came, end = _search(possible, holders, appointment)
            if end is None:
                short = [appointment] + [holders[slot] for slot in came]
                return ("short", tuple(sorted(short)), tuple(sorted(came)))
            _hand_over(holders, came, end)
    # The frozen appointments have their own slots, so moves lead to this timetable.
    places = {appointment: slot for slot, appointment in holders.items()}
    return ("granted", tuple([places[appointment] for appointment in range(len(book))]))


def check_granted(book, timetable, wishes, answer):
    """Raise NoCertificate unless the answer is a correct one to granted."""
    check_timetable(book, timetable)
    check_wishes(book, wishes)
    if is_answer(answer, "granted", 2) and isinstance(answer[1], tuple):
        _check_fulfilled(book, timetable, wishes, answer[1])
    elif is_answer(answer, "short", 3) and isinstance(answer[1], tuple) and isinstance(answer[2], tuple):
        _check_short(_possible_slots(book, timetable, wishes), answer[1], answer[2])
    else:
        raise NoCertificate(-1)


def check_wishes(book, wishes):
    """Raise NoWish unless the argument is a dict from appointments to slots."""
    if not isinstance(wishes, dict):
        raise NoWish(None)
    for appointment, slot in wishes.items():
        if not is_below(appointment, len(book)) or not is_below(slot, book.size()):
            raise NoWish(appointment)


def _check_fulfilled(book, timetable, wishes, other):
    check_other(book, timetable, other)
    for appointment, slot in wishes.items():
        if other[appointment] != slot:
            raise NoCertificate(2)


def _check_short(possible, appointments, slots):
    if len(appointments) == 0:
        raise NoCertificate(0)
    seen = set()
    together = 0
    for appointment in appointments:
        # The kind goes first: True is equal to 1, and a list cannot be in a set.
        if not is_below(appointment, len(possible)) or appointment in seen:
            raise NoCertificate(0)
        seen.add(appointment)
        together |= possible[appointment]
    if not _is_list_of(slots, bits(together)):
        raise NoCertificate(1)
    if len(slots) >= len(appointments):
        raise NoCertificate(2)


def _is_list_of(slots, expected):
    for slot in slots:
        # Only integers can be sorted with one another for sure.
        if not is_whole(slot):
            return False
    return sorted(slots) == expected


def _possible_slots(book, timetable, wishes):
    """Return one integer for each appointment: bit k of it is 1 if slot k is possible."""
    ways = ways_out(book, timetable)
    wished = set(list(wishes.values()))
    possible = []
    for appointment, slot in enumerate(timetable):
        choices = [slot]
        if slot in ways:
            choices = [other for other in book.allowed(appointment) if other in ways]
        if appointment in wishes:
            choices = [other for other in choices if other == wishes[appointment]]
        elif slot in ways:
            choices = [other for other in choices if other not in wished]
        possible.append(sum([1 << other for other in choices]))
    return possible


def _search(possible, holders, first):
    """Look for a way from an appointment without a slot to a slot without a holder, over holders that go on.

    Return a dict of the slots that were met, with the appointment that would take each and the slot that it would
    leave, and the slot where the way ends; None if all slots that were met have holders.
    """
    came = {}
    met = 0
    waiting = [(first, None)]
    while waiting:
        further = []
        for appointment, left in waiting:
            new = possible[appointment] & ~met
            met |= new
            for slot in bits(new):
                came[slot] = (appointment, left)
                if slot not in holders:
                    return came, slot
                further.append((holders[slot], slot))
        waiting = further
    return came, None


def _hand_over(holders, came, end):
    slot = end
    while slot is not None:
        appointment, left = came[slot]
        holders[slot] = appointment
        slot = left
