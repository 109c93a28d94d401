"""What several tests use: things of wrong kinds, rows and deeds by chance, and turning by plain counting."""

import itertools

HUGE = 10 ** 60


class Odd:
    """An object that says yes to everything but is no number, list or tuple."""

    def __eq__(self, other):
        return True

    def __hash__(self):
        return 0

    def __lt__(self, other):
        return True

    __le__ = __gt__ = __ge__ = __lt__

    def __len__(self):
        return 3

    def __iter__(self):
        return iter((0, 1, 1))

    def __getitem__(self, at):
        return 1

    def __int__(self):
        return 3

    def __index__(self):
        return 3


class Shy:
    """An object that answers nothing that it is asked."""

    def __getattr__(self, name):
        raise AttributeError(name)

    def __bool__(self):
        raise RuntimeError("asked for its truth")

    def __eq__(self, other):
        raise RuntimeError("compared")

    __hash__ = None

    def __len__(self):
        raise RuntimeError("measured")

    def __iter__(self):
        raise RuntimeError("iterated")

    def __str__(self):
        raise RuntimeError("written out")

    __repr__ = __str__


def no_numbers():
    """Things of many kinds, none of which is a whole number."""
    return [
        True, False, None, "", "2", "ten", b"", b"\x02", 2.0, 3.5, float("nan"), float("inf"), 2j,
        [], [2], (), (2,), {}, {2: 2}, set(), {2}, frozenset(), range(3), iter([2]), object(), Odd(), Shy(),
        int, len, Ellipsis, NotImplemented, bytearray(b"2"), slice(2), ValueError(2),
    ]


def no_lists():
    """Things of many kinds, none of which is a list; most would pass if they were looked into."""
    return [
        None, True, False, 0, 1, -1, HUGE, 1.5, "", "01", "a", b"", b"\x00\x01", bytearray(b"\x00"), (), (0,), (0, 1),
        {}, {0: 1}, {0, 1}, set(), frozenset([0]), range(2), iter([0]), (k for k in [0, 1]), zip([0], [1]),
        ((0, 1, 1),), {(0, 1, 1)}, {(0, 1, 1): 1}, iter([(0, 1, 1)]), object(), Odd(), Shy(), list, len,
    ]


def step_by_step(size, row, deeds):
    """The row behind deeds by turning each dial one figure at a time."""
    dials = list(row)
    for first, end, steps in deeds:
        for dial in range(first, end):
            for _ in range(abs(steps)):
                if steps > 0:
                    dials[dial] = 0 if dials[dial] == size - 1 else dials[dial] + 1
                else:
                    dials[dial] = size - 1 if dials[dial] == 0 else dials[dial] - 1
    return dials


def dial_by_dial(size, row, deeds):
    """The row behind deeds by summing up the steps of each dial."""
    return [
        (figure + sum(steps for first, end, steps in deeds if first <= dial < end)) % size
        for dial, figure in enumerate(row)
    ]


def some_row(chance, size, dials):
    return [chance.randrange(size) for _ in range(dials)]


def some_deeds(chance, dials, many, most):
    deeds = []
    for _ in range(many):
        first, end = sorted(chance.sample(range(dials + 1), 2))
        steps = chance.choice([-1, 1]) * chance.randint(1, most)
        deeds.append((first, end, steps))
    return deeds


def gaps_by_hand(size, one, other):
    """The gaps as point 3 tells them, with a turn of nothing ahead of the first dial and behind the last one."""
    turns = [0] + [wanted - figure for figure, wanted in zip(one, other)] + [0]
    return [(turns[place + 1] - turns[place]) % size for place in range(len(one) + 1)]


def sum_by_hand(size, one, other, mark):
    """The sum over all gaps that point 3 tells."""
    return sum(min((size - mark) * gap, mark * (size - gap)) for gap in gaps_by_hand(size, one, other))


def steps_by_hand(deeds):
    return sum(steps if steps > 0 else -steps for _, _, steps in deeds)


def shown_by_hand(size, one, other, deeds, mark):
    """Whether it is as point 3 tells."""
    for first, end, steps in deeds:
        if first < 0 or end > len(one) or first >= end or steps == 0:
            return False
    if dial_by_dial(size, one, deeds) != other or mark < 0 or mark > size:
        return False
    return size * steps_by_hand(deeds) == sum_by_hand(size, one, other, mark)


def all_rows(size, dials):
    return [list(row) for row in itertools.product(range(size), repeat=dials)]


def walked_from(size, one):
    """How many steps each row is away from the one, by walking on a step at a time."""
    start = tuple(one)
    far = {start: 0}
    edge = [start]
    while edge:
        beyond = []
        for row in edge:
            for first, end in itertools.combinations(range(len(row) + 1), 2):
                for step in (1, -1):
                    stretch = tuple((figure + step) % size for figure in row[first:end])
                    reached = row[:first] + stretch + row[end:]
                    if reached not in far:
                        far[reached] = far[row] + 1
                        beyond.append(reached)
        edge = beyond
    return far


def turned_all(size, row, number):
    """The row with all of its dials turned by the number."""
    return [(figure + number) % size for figure in row]


def near_row(chance, size, row, many, most):
    """A row not far from this one."""
    return dial_by_dial(size, row, some_deeds(chance, len(row), many, most)) if row else []
