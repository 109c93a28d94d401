"""The gaps of two rows, and the sum of them that a mark gives."""


def gaps_between(size, one, other):
    """Tell for each place by how many steps more a dial behind it has to be turned than one ahead of it."""
    gaps = []
    ahead = 0
    for figure, wanted in zip(one, other):
        turn = wanted - figure
        gaps.append((turn - ahead) % size)
        ahead = turn
    gaps.append((0 - ahead) % size)
    return gaps


def lesser_sum(size, gaps, mark):
    """Tell the sum that the size times the steps of any deeds over these gaps never falls short of."""
    return sum(min((size - mark) * gap, mark * (size - gap)) for gap in gaps)
