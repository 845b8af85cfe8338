"""Releasing: the fewest cancellations after which every appointment can move."""

from reslot.books import Book, check_timetable
from reslot.errors import NoAppointment, NoCertificate
from reslot.kinds import is_below
from reslot.opening import tight_fault
from reslot.ways import ways_out, ways_to


def tight_sets(book, timetable):
    """Return the ascending list of the minimal tight sets."""
    check_timetable(book, timetable)
    owners = {slot: appointment for appointment, slot in enumerate(timetable)}
    known = {}
    found = []
    for root in _roots(book, timetable, owners):
        inside = _onward(book, owners, known, root)
        if inside is not None:
            found.append(tuple(sorted(inside)))
    return sorted(found)


def cancelled(book, timetable, appointments):
    """Return the Book and the timetable without the appointments."""
    check_timetable(book, timetable)
    if not isinstance(appointments, tuple):
        raise NoAppointment(appointments)
    wrong = _first_wrong(book, appointments)
    if wrong is not None:
        raise NoAppointment(appointments[wrong])
    gone = set(appointments)
    kept = [appointment for appointment in range(len(book)) if appointment not in gone]
    rows = [book.allowed(appointment) for appointment in kept]
    return (Book(book.size(), rows), tuple([timetable[appointment] for appointment in kept]))


def fewest_cancelled(book, timetable):
    """Return (appointments, sets): the fewest appointments to cancel, and the minimal tight sets, as many."""
    sets = tight_sets(book, timetable)
    owners = {slot: appointment for appointment, slot in enumerate(timetable)}
    # From every closed slot, ways lead to a minimal tight set, so one free slot in each of these opens them all.
    return (tuple(sorted([owners[slots[0]] for slots in sets])), sets)


def check_cancelled(book, timetable, answer):
    """Raise NoCertificate unless the answer is a correct one to fewest_cancelled."""
    check_timetable(book, timetable)
    if not _is_pair(answer):
        raise NoCertificate(-1)
    appointments, sets = answer
    many = len(appointments)
    wrong = _first_wrong(book, appointments)
    if wrong is not None:
        raise NoCertificate(wrong)
    if len(ways_out(book, timetable, appointments)) < book.size():
        raise NoCertificate(many)
    wrong = _first_fault(book, timetable, sets)
    if wrong is not None:
        raise NoCertificate(many + 1 + wrong)
    if len(sets) != many:
        raise NoCertificate(many + 1 + len(sets))


def _is_pair(answer):
    if not isinstance(answer, tuple) or len(answer) != 2:
        return False
    return isinstance(answer[0], tuple) and isinstance(answer[1], list)


def _first_wrong(book, appointments):
    """Return the index of the first item that is no appointment or repeats an earlier one, or None."""
    seen = set()
    for index, appointment in enumerate(appointments):
        # The kind goes first: True is equal to 1, and a list cannot be in a set.
        if not is_below(appointment, len(book)) or appointment in seen:
            return index
        seen.add(appointment)
    return None


def _first_fault(book, timetable, sets):
    """Return the index of the first item that is no tight set, empty, or not apart from the earlier ones, or None."""
    taken = set()
    for index, slots in enumerate(sets):
        if tight_fault(book, timetable, slots) is not None or len(slots) == 0:
            return index
        for slot in slots:
            if slot in taken:
                return index
            taken.add(slot)
    return None


def _roots(book, timetable, owners):
    """Return a list of closed slots that has exactly one slot of each minimal tight set, and some others.

    Each is where a search backwards along the ways began, because no search before had met it. Such a search comes
    into a minimal tight set from its own slots only: it begins in one of them and meets them all. It also meets the
    slots with a way into the set, except for those met before. So a root outside that leads into the set was found
    before that of the set, and stands behind it in the list, which is reversed.
    """
    ways = ways_out(book, timetable)
    waiting = sum([1 << appointment for appointment, slot in enumerate(timetable) if slot not in ways])
    roots = []
    for appointment, root in enumerate(timetable):
        if waiting >> appointment & 1:
            roots.append(root)
            for slot in ways_to(book, timetable, [root], waiting - (1 << appointment)):
                waiting -= 1 << owners[slot]
    roots.reverse()
    return roots


def _onward(book, owners, known, root):
    """Return the smallest tight set with the root as a list, or None if it has a slot that another root made known.

    The slots that are met become known.
    """
    known[root] = root
    inside = [root]
    waiting = [root]
    while waiting:
        slot = waiting.pop()
        for further in book.allowed(owners[slot]):
            if further not in known:
                known[further] = root
                inside.append(further)
                waiting.append(further)
            elif known[further] != root:
                return None
    return inside
