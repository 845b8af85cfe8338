"""What the checks of answers have in common."""

from reslot.errors import NoCertificate, NoMove
from reslot.moves import moved


def is_answer(value, word, many):
    """Tell whether the value is a tuple of so many items, the first of them the word."""
    if not isinstance(value, tuple) or len(value) != many:
        return False
    # The kind goes first: what is no string may not let itself be compared with one.
    return isinstance(value[0], str) and value[0] == word


def led_to(book, timetable, steps):
    """Return the timetable after the moves of an answer, or raise NoCertificate."""
    try:
        return moved(book, timetable, steps)
    except NoMove as wrong:
        raise NoCertificate(wrong.index) from None
