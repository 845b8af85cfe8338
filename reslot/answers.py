"""What the checks of answers have in common."""

from reslot.books import check_timetable
from reslot.errors import NoCertificate, NoMove, NoTimetable
from reslot.moves import moved
from reslot.ways import ways_out


def is_answer(value, word, many):
    """Tell whether the value is a tuple of so many items, the first of them the word."""
    if not isinstance(value, tuple) or len(value) != many:
        return False
    # The kind goes first: what is no string may not let itself be compared with one.
    return isinstance(value[0], str) and value[0] == word


def led_to(book, timetable, steps):
    """Return the timetable after the moves of an answer, or raise NoCertificate."""
    try:
        return moved(book, timetable, steps)
    except NoMove as wrong:
        raise NoCertificate(wrong.index) from None


def check_other(book, timetable, other):
    """Raise NoCertificate(0) unless other is a timetable of the book, NoCertificate(1) unless moves lead to it."""
    try:
        check_timetable(book, other)
    except NoTimetable:
        raise NoCertificate(0) from None
    ways = ways_out(book, timetable)
    for appointment, slot in enumerate(timetable):
        if slot != other[appointment] and slot not in ways:
            raise NoCertificate(1)
