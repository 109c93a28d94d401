"""The fewest steps from row to row."""

from dialrow.answers import Best
from dialrow.errors import Unlike
from dialrow.gaps import gaps_between
from dialrow.rows import check_row, check_size, steps_of


def check_rows(size, one, other):
    """Raise BadSize, BadRow or Unlike if they are no two rows of the size of as many dials."""
    check_size(size)
    check_row(size, one)
    check_row(size, other)
    if len(one) != len(other):
        raise Unlike("the rows have other counts of dials")


def least_changes(size, gaps):
    """Tell by how many steps each place changes, forth or back, in the fewest steps, and a mark for them."""
    # All changes together are nought, so as many gaps as their sum has sizes
    # must be made the other way round, by what the size is more than they are.
    # It costs least to take the greatest ones; a mark between them and the
    # others gives just these steps.
    ordered = sorted([(gap, place) for place, gap in enumerate(gaps)])
    kept = len(gaps) - sum(gaps) // size
    changes = list(gaps)
    for gap, place in ordered[kept:]:
        changes[place] = gap - size
    # Each gap is less than the size, so at least one is kept.
    return changes, ordered[kept - 1][0]


def deeds_over(changes):
    """Tell deeds that change each place by so many steps, none of them turned back by another one."""
    deeds = []
    # Places whose changes are still to be made up for, with what is left of
    # them; what is left is forth at all of them, or back at all of them.
    waiting = []
    for place, change in enumerate(changes):
        left = change
        while waiting and waiting[-1][1] * left < 0:
            first, owed = waiting.pop()
            steps = owed if abs(owed) <= abs(left) else -left
            deeds.append((first, place, steps))
            left += steps
            if owed != steps:
                waiting.append((first, owed - steps))
        if left != 0:
            waiting.append((place, left))
    return deeds


def best(size, one, other):
    """Tell the fewest steps that turn the one row into the other one, and a mark that shows it."""
    check_rows(size, one, other)
    changes, mark = least_changes(size, gaps_between(size, one, other))
    return Best(deeds_over(changes), mark)


def apart(size, one, other):
    """Tell how many steps the rows are apart."""
    return steps_of(best(size, one, other).deeds)


def level(size, row):
    """Tell the fewest steps by which all dials of the row show one figure, that of the first dial."""
    check_size(size)
    check_row(size, row)
    return best(size, row, row[:1] * len(row))
