"""Costs of appointments for slots, and the reachable timetables with the least total."""

from reslot.answers import check_other
from reslot.books import check_timetable
from reslot.errors import NoCertificate, NoCosts
from reslot.kinds import is_whole
from reslot.prices import cheapest_places
from reslot.ways import ways_out
from reslot.wishes import check_wishes

MOST_COST = 1000000


def cheapest(book, timetable, costs):
    """Return (total, other, prices): a cheapest reachable timetable, and prices that show that none is cheaper."""
    check_timetable(book, timetable)
    _check_costs(book, costs)
    ways = ways_out(book, timetable)
    rows = _open_choices(book, timetable, costs, ways)
    other, prices = _rearranged(timetable, ways, rows)
    return (_total(book, costs, other), other, [prices.get(slot, 0) for slot in range(book.size())])


def check_cheapest(book, timetable, costs, answer):
    """Raise NoCertificate unless the answer is a correct one to cheapest."""
    check_timetable(book, timetable)
    _check_costs(book, costs)
    if not _is_triple(answer):
        raise NoCertificate(-1)
    total, other, prices = answer
    check_other(book, timetable, other)
    if total != _total(book, costs, other):
        raise NoCertificate(2)
    ways = ways_out(book, timetable)
    if not _are_prices(prices, book.size(), [slot for slot in other if slot in ways]):
        raise NoCertificate(3)
    for appointment, row in _open_choices(book, timetable, costs, ways).items():
        sums = {slot: cost + prices[slot] for cost, slot in row}
        if sums[other[appointment]] > min(list(sums.values())):
            raise NoCertificate(4)


def most_granted(book, timetable, wishes):
    """Return (number, other): how many of the wishes a reachable timetable can fulfil, and such a timetable."""
    check_timetable(book, timetable)
    check_wishes(book, wishes)
    ways = ways_out(book, timetable)
    rows = {}
    for appointment, slot in enumerate(timetable):
        if slot in ways:
            wish = wishes.get(appointment)
            rows[appointment] = [(int(slot != wish), slot) for slot in book.allowed(appointment) if slot in ways]
    other, prices = _rearranged(timetable, ways, rows)
    return (len([slot for appointment, slot in wishes.items() if other[appointment] == slot]), other)


def _check_costs(book, costs):
    if not isinstance(costs, list) or len(costs) != len(book):
        raise NoCosts(-1)
    for appointment, row in enumerate(costs):
        if not isinstance(row, list) or len(row) != len(book.allowed(appointment)):
            raise NoCosts(appointment)
        for cost in row:
            # The kind goes first: what is no integer cannot be compared with one.
            if not isinstance(cost, int) or isinstance(cost, bool) or not -MOST_COST <= cost <= MOST_COST:
                raise NoCosts(appointment)


def _open_choices(book, timetable, costs, ways):
    """Return a dict of the appointments that are not frozen, with (cost, slot) for each open slot that they may use."""
    rows = {}
    for appointment, own in enumerate(timetable):
        if own in ways:
            row = book.allowed(appointment)
            rows[appointment] = [(cost, slot) for cost, slot in zip(costs[appointment], row) if slot in ways]
    return rows


def _rearranged(timetable, ways, rows):
    """Return the timetable with the appointments of the dict in their cheapest places, and a dict of prices."""
    places, prices = cheapest_places(list(rows.values()), list(ways))
    other = list(timetable)
    for appointment, slot in zip(rows, places):
        other[appointment] = slot
    return tuple(other), prices


def _total(book, costs, other):
    return sum([costs[appointment][book.allowed(appointment).index(slot)] for appointment, slot in enumerate(other)])


def _is_triple(answer):
    if not isinstance(answer, tuple) or len(answer) != 3:
        return False
    return is_whole(answer[0]) and isinstance(answer[1], tuple) and isinstance(answer[2], list)


def _are_prices(prices, size, priced):
    """Tell whether the list has one integer from 0 on for each slot, and 0 for all but the slots that may be priced."""
    if len(prices) != size:
        return False
    for slot, price in enumerate(prices):
        if not is_whole(price) or price < 0 or price > 0 and slot not in priced:
            return False
    return True
