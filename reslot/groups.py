"""Groups: appointments that can move and share open slots, directly or through one another.

No group shares an open slot with another one. So they move independently, and the timetables that
can be reached are all combinations of what the groups can reach. All functions here take valid arguments.
"""

from reslot.ways import bits

# So few appointments of a group are tried in all combinations.
FEW = 5


def groups(book, opened):
    """Return the groups as ascending lists of appointments, the one with the smallest appointment first."""
    users = book.users()
    found = []
    for slot in opened:
        joined = users[slot]
        apart = []
        for group in found:
            if group & joined:
                joined |= group
            else:
                apart.append(group)
        if joined:
            apart.append(joined)
        found = apart
    return sorted([bits(group) for group in found])


def placings(rows, start, limit):
    """Return all tuples that a group can reach from start, or None if there are more than limit of them.

    rows has the list of open slots that each appointment of the group may use.
    """
    if len(rows) <= FEW:
        return _tried(rows, limit)
    return _searched(rows, start, limit)


def arranged(tuples, order):
    """Return the ascending tuples with their items in another order, and ascending again.

    order has one number for each item; the item with the smallest number goes first.
    """
    if order == sorted(order):
        return tuples
    columns = list(zip(*tuples))
    turned = [columns[at] for number, at in sorted([(number, at) for at, number in enumerate(order)])]
    return sorted(zip(*turned))


def _tried(rows, limit):
    # In open slots, everything valid can be reached. The shortest rows go first: a later row that is as long as there
    # are rows has a slot left for every tuple, so that the tuples only become more.
    order = sorted([(len(row), place) for place, row in enumerate(rows)])
    tuples = [()]
    for many, (length, place) in enumerate(order):
        if length >= len(rows) and len(tuples) * (length - many) > limit:
            return None
        tuples = [taken + (slot,) for taken in tuples for slot in rows[place] if slot not in taken]
    if len(tuples) > limit:
        return None
    return arranged(tuples, [place for length, place in order])


def _searched(rows, start, limit):
    users = {}
    for place, row in enumerate(rows):
        for slot in row:
            users.setdefault(slot, []).append(place)
    found = set()
    found.add(start)
    waiting = [(start, [slot for slot in users if slot not in start])]
    while waiting:
        current, free = waiting.pop()
        for at, slot in enumerate(free):
            for place in users[slot]:
                later = current[:place] + (slot,) + current[place + 1:]
                if later not in found:
                    found.add(later)
                    waiting.append((later, free[:at] + [current[place]] + free[at + 1:]))
            # Asked after each slot, so that a group with far too many ends early.
            if len(found) > limit:
                return None
    return sorted(found)
