"""Books of slots and appointments, and their timetables."""

from reslot.errors import NoAppointment, NoBook, NoTimetable
from reslot.kinds import is_below, is_slot_list, is_whole

MOST_SLOTS = 60
MOST_APPOINTMENTS = 60


class Book:
    """A number of slots, and the slots that each appointment may use."""

    def __init__(self, slots, allowed):
        _check_book(slots, allowed)
        self._slots = slots
        # Copies, so that the book stays as it is when the caller's lists change.
        self._allowed = [tuple(row) for row in allowed]
        self._users = _users_of_slots(slots, self._allowed)

    def size(self):
        """Return the number of slots."""
        return self._slots

    def __len__(self):
        return len(self._allowed)

    def __eq__(self, other):
        return isinstance(other, Book) and self._slots == other._slots and self._allowed == other._allowed

    def allowed(self, appointment):
        """Return the ascending list of the slots that the appointment may use."""
        if not is_below(appointment, len(self._allowed)):
            raise NoAppointment(appointment)
        return list(self._allowed[appointment])

    def users(self):
        """Return one integer for each slot: bit k of it is 1 if appointment k may use the slot."""
        return self._users


def check_timetable(book, timetable):
    """Raise NoTimetable unless the argument is a timetable of the book."""
    if not isinstance(timetable, tuple) or len(timetable) != len(book):
        raise NoTimetable(-1)
    users = book.users()
    seen = set()
    for index, slot in enumerate(timetable):
        # The kind goes first: True is equal to 1, and a list cannot be in a set.
        if not is_below(slot, len(users)) or slot in seen or not users[slot] >> index & 1:
            raise NoTimetable(index)
        seen.add(slot)


def _check_book(slots, allowed):
    if not is_whole(slots) or not 1 <= slots <= MOST_SLOTS:
        raise NoBook(-1)
    if not isinstance(allowed, list) or len(allowed) > MOST_APPOINTMENTS:
        raise NoBook(-1)
    for index, row in enumerate(allowed):
        if not is_slot_list(row, slots):
            raise NoBook(index)


def _users_of_slots(slots, rows):
    users = [0] * slots
    for appointment, row in enumerate(rows):
        bit = 1 << appointment
        for slot in row:
            users[slot] += bit
    return tuple(users)
