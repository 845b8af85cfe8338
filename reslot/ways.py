"""Ways: appointments that make room, each going to the slot that the one before it has left.

The last one goes to a free slot. Ways are found backwards, from the free slots. All functions here take
valid arguments; a timetable may be a list, too.
"""


def bits(number):
    """Return the ascending list of the positions at which the integer has a 1."""
    places = []
    while number:
        low = number & -number
        places.append(low.bit_length() - 1)
        number ^= low
    return places


def unoccupied(book, timetable):
    """Return the ascending list of the free slots."""
    occupied = set(timetable)
    return [slot for slot in range(book.size()) if slot not in occupied]


def ways_out(book, timetable):
    """Return a dict of the slots from which a way leads to a free slot: the open slots, the nearest ones first.

    A free slot has the value None; any other one has the first step of a shortest way, (appointment, slot).
    """
    users = book.users()
    waiting = (1 << len(book)) - 1
    layer = unoccupied(book, timetable)
    ways = {slot: None for slot in layer}
    while layer:
        further = []
        for slot in layer:
            coming = users[slot] & waiting
            waiting -= coming
            for appointment in bits(coming):
                left = timetable[appointment]
                ways[left] = (appointment, slot)
                further.append(left)
        layer = further
    return ways


def steps_along(ways, slot):
    """Return the moves that free the slot along its way, in the order in which they are possible."""
    steps = []
    step = ways[slot]
    while step is not None:
        steps.append(step)
        step = ways[step[1]]
    steps.reverse()
    return steps


def closed_slots(book, ways):
    """Return the ascending tuple of the slots from which no way leads."""
    return tuple([slot for slot in range(book.size()) if slot not in ways])
