"""Ways: appointments that make room, each going to the slot that the one before it has left.

The last one goes to a free slot. Ways are found backwards, from the free slots. All functions here take
valid arguments; a timetable may be a list, too.
"""


def bits(number):
    """Return the ascending list of the positions at which the integer has a 1."""
    places = []
    while number:
        low = number & -number
        places.append(low.bit_length() - 1)
        number ^= low
    return places


def unoccupied(book, timetable):
    """Return the ascending list of the free slots."""
    occupied = set(timetable)
    return [slot for slot in range(book.size()) if slot not in occupied]


def ways_out(book, timetable, gone=()):
    """Return a dict of the slots from which a way leads to a free slot: the open slots, the nearest ones first.

    A free slot has the value None; any other one has the first step of a shortest way, (appointment, slot). The
    appointments in gone are taken as cancelled, so that their slots are free.
    """
    waiting = (1 << len(book)) - 1
    for appointment in gone:
        waiting -= 1 << appointment
    return ways_to(book, timetable, unoccupied(book, timetable) + [timetable[k] for k in gone], waiting)


def ways_to(book, timetable, slots, waiting):
    """Return a dict like that of ways_out, of the slots from which a way leads to one of the slots.

    Bit k of waiting is 1 if appointment k may be the one that goes; it is 0 for those in the slots themselves.
    """
    users = book.users()
    layer = slots
    ways = {slot: None for slot in layer}
    while layer:
        further = []
        for slot in layer:
            coming = users[slot] & waiting
            waiting -= coming
            for appointment in bits(coming):
                left = timetable[appointment]
                ways[left] = (appointment, slot)
                further.append(left)
        layer = further
    return ways


def steps_along(ways, slot):
    """Return the moves that free the slot along its way, in the order in which they are possible."""
    steps = []
    step = ways[slot]
    while step is not None:
        steps.append(step)
        step = ways[step[1]]
    steps.reverse()
    return steps


def closed_slots(book, ways):
    """Return the ascending tuple of the slots from which no way leads."""
    return tuple([slot for slot in range(book.size()) if slot not in ways])
