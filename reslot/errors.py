"""The errors of Reslot.

No message shows the field: it may be any value, and some values cannot be shown
(an integer of too many digits, a list nested too deep).
"""


class SlotError(ValueError):
    """The class that every error of the package derives from."""


class NoBook(SlotError):
    """The arguments do not make a book."""

    def __init__(self, index):
        super().__init__("not a valid book")
        self.index = index


class NoTimetable(SlotError):
    """The argument is not a timetable of the book."""

    def __init__(self, index):
        super().__init__("not a timetable of the book")
        self.index = index


class NoMove(SlotError):
    """The argument is not a list of moves that are possible in turn."""

    def __init__(self, index):
        super().__init__("not a list of possible moves")
        self.index = index


class NoSlot(SlotError):
    """The argument is not a slot of the book."""

    def __init__(self, slot):
        super().__init__("not a slot of the book")
        self.slot = slot


class NoAppointment(SlotError):
    """The argument is not an appointment of the book."""

    def __init__(self, appointment):
        super().__init__("not an appointment of the book")
        self.appointment = appointment


class Frozen(SlotError):
    """The slot is closed: the appointments in these slots can never move."""

    def __init__(self, slots):
        super().__init__("a closed slot")
        self.slots = slots


class NoCertificate(SlotError):
    """The answer is not correct."""

    def __init__(self, index):
        super().__init__("not a correct answer")
        self.index = index


class TooMany(SlotError):
    """There are more results than were asked for."""

    def __init__(self, most):
        super().__init__("too many results")
        self.most = most


class NotAllowed(SlotError):
    """The appointment may not use the slot."""

    def __init__(self, slot):
        super().__init__("a slot that the appointment may not use")
        self.slot = slot


class NoWish(SlotError):
    """The argument is not a dict of wishes."""

    def __init__(self, key):
        super().__init__("not a dict of wishes")
        self.key = key


class NoCosts(SlotError):
    """The argument is not a list of costs of the book."""

    def __init__(self, index):
        super().__init__("not a list of costs of the book")
        self.index = index
