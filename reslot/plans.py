"""Plans: the moves from one timetable to another, or the reason why there are none."""

from reslot.answers import is_answer, led_to
from reslot.books import check_timetable
from reslot.errors import NoCertificate
from reslot.kinds import is_below
from reslot.opening import check_tight
from reslot.ways import closed_slots, steps_along, unoccupied, ways_out


def least(book, one, other):
    """Return the number of differing appointments plus the number of cycles: no list of moves is shorter."""
    check_timetable(book, one)
    check_timetable(book, other)
    differing = [appointment for appointment, slot in enumerate(one) if slot != other[appointment]]
    return len(differing) + len(_cycles(one, other))


def plan(book, one, other):
    """Return ("plan", steps), or ("frozen", appointment, slots) if no moves lead from one to other."""
    check_timetable(book, one)
    check_timetable(book, other)
    ways = ways_out(book, one)
    for appointment, slot in enumerate(one):
        if slot != other[appointment] and slot not in ways:
            return ("frozen", appointment, closed_slots(book, ways))
    steps = _chain_moves(book, one, other)
    places = list(one)
    for appointment, slot in steps:
        places[appointment] = slot
    for cycle in _cycles(one, other):
        steps.extend(_cycle_moves(book, places, other, cycle))
        for appointment in cycle:
            places[appointment] = other[appointment]
    return ("plan", steps)


def check_plan(book, one, other, answer):
    """Raise NoCertificate unless the answer is a correct one to plan."""
    check_timetable(book, one)
    check_timetable(book, other)
    if is_answer(answer, "plan", 2) and isinstance(answer[1], list):
        if led_to(book, one, answer[1]) != other:
            raise NoCertificate(len(answer[1]))
    elif is_answer(answer, "frozen", 3) and isinstance(answer[2], tuple):
        _check_frozen(book, one, other, answer[1], answer[2])
    else:
        raise NoCertificate(-1)


def _check_frozen(book, one, other, appointment, slots):
    check_tight(book, one, slots)
    if not is_below(appointment, len(book)) or one[appointment] not in slots or one[appointment] == other[appointment]:
        raise NoCertificate(2 * len(slots))


def _cycles(one, other):
    owners = {slot: appointment for appointment, slot in enumerate(one)}
    seen = set()
    found = []
    for first in range(len(one)):
        walk = []
        at = first
        while at is not None and at not in seen:
            seen.add(at)
            walk.append(at)
            at = owners.get(other[at])
        # A chain ends in a free slot or in an earlier walk; an appointment that keeps its slot is alone.
        if at == first and len(walk) > 1:
            found.append(walk)
    return found


def _chain_moves(book, one, other):
    goes = {other[appointment]: appointment for appointment, slot in enumerate(one) if slot != other[appointment]}
    steps = []
    for slot in unoccupied(book, one):
        gap = slot
        while gap in goes:
            appointment = goes[gap]
            steps.append((appointment, gap))
            gap = one[appointment]
    return steps


def _cycle_moves(book, places, other, cycle):
    ways = ways_out(book, places)
    inside = {places[appointment] for appointment in cycle}
    # The way from the nearest slot of the cycle meets no other slot of it.
    nearest = [slot for slot in ways if slot in inside][0]
    out = steps_along(ways, nearest)
    # The appointment that leaves this slot waits outside while the others go on; it goes last.
    at = cycle.index(out[-1][0])
    turn = cycle[at:] + cycle[:at]
    turn.reverse()
    helpers = [step[0] for step in out[:-1]]
    helpers.reverse()
    return out + [(appointment, other[appointment]) for appointment in turn] + [(k, places[k]) for k in helpers]
