"""What kind of value an argument is."""


def is_whole(value):
    """Tell whether the value is an integer; a bool is none."""
    return isinstance(value, int) and not isinstance(value, bool)


def is_below(value, limit):
    """Tell whether the value is an integer from 0 to limit - 1."""
    return isinstance(value, int) and not isinstance(value, bool) and 0 <= value < limit


def is_slot_list(value, size):
    """Tell whether the value is an ascending list of different slots below size, at least one."""
    if not isinstance(value, list) or len(value) == 0:
        return False
    before = -1
    for slot in value:
        # The kind goes first: what is no integer cannot be compared with one.
        if not isinstance(slot, int) or isinstance(slot, bool) or not before < slot < size:
            return False
        before = slot
    return True
