"""Answers: deeds, and the mark that shows that fewer steps won't do."""

from dialrow.gaps import gaps_between, lesser_sum
from dialrow.rows import are_deeds, steps_of, turned


class Best:
    """Deeds that turn one row into another one, and a mark."""

    def __init__(self, deeds, mark):
        self.deeds = list(deeds)
        self.mark = mark

    def shows(self, size, one, other):
        """Tell whether the deeds turn the one row into the other one, and the mark shows that fewer steps won't do."""
        if not are_deeds(len(one), self.deeds) or turned(size, one, self.deeds) != other:
            return False
        if self.mark < 0 or self.mark > size:
            return False
        return size * steps_of(self.deeds) == lesser_sum(size, gaps_between(size, one, other), self.mark)
