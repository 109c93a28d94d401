"""Sizes, rows and deeds, and the row behind deeds."""

from dialrow.errors import BadDeeds, BadRow, BadSize

# The errors do not show what was handed in: Python refuses to write out
# very long numbers, and that refusal would hide the error itself.


def is_number(thing):
    """Tell whether it is a whole number."""
    # Python counts True and False among the integers; the document does not.
    return isinstance(thing, int) and not isinstance(thing, bool)


def check_size(size):
    """Raise BadSize if it is no size."""
    if not is_number(size) or size < 2:
        raise BadSize("a size is a whole number, 2 or more")


def check_row(size, row):
    """Raise BadRow if it is no row of the size."""
    if not isinstance(row, list):
        raise BadRow("a row is a list of figures")
    for figure in row:
        if not is_number(figure) or figure < 0 or figure >= size:
            raise BadRow("a figure is a whole number from 0 to one less than the size")


def is_deed(dials, thing):
    """Tell whether it is a deed of so many dials."""
    if not isinstance(thing, tuple) or len(thing) != 3:
        return False
    first, end, steps = thing
    if not is_number(first) or not is_number(end) or not is_number(steps):
        return False
    return 0 <= first < end <= dials and steps != 0


def are_deeds(dials, things):
    """Tell whether each of a list of things is a deed of so many dials."""
    return all(is_deed(dials, thing) for thing in things)


def check_deeds(dials, deeds):
    """Raise BadDeeds if they are no deeds of so many dials."""
    if not isinstance(deeds, list):
        raise BadDeeds("deeds are a list")
    if not are_deeds(dials, deeds):
        raise BadDeeds("a deed is a tuple of a dial's count, a greater end within the dials, and steps, not 0")


def steps_of(deeds):
    """Tell how many steps the deeds take together, forth or back."""
    return sum(abs(steps) for first, end, steps in deeds)


def turned(size, row, deeds):
    """Tell the row behind the deeds, as a new list."""
    check_size(size)
    check_row(size, row)
    check_deeds(len(row), deeds)
    # Only the ends of a stretch are noted, so a long one costs no more than a short one.
    changes = [0] * (len(row) + 1)
    for first, end, steps in deeds:
        changes[first] += steps
        changes[end] -= steps
    behind = []
    turn = 0
    for place, figure in enumerate(row):
        turn += changes[place]
        behind.append((figure + turn) % size)
    return behind
