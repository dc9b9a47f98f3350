"""Crossing words: the order in which a walk crosses right and upper sides."""

from slantwalk.directions import check_direction


class CrossingWord:
    """The endless word of a direction, of the letters "r" and "u"."""

    def __init__(self, p, q):
        check_direction(p, q)
        self._p = p
        self._q = q

    @property
    def round_length(self):
        """The number of letters after which the word repeats."""
        return self._p + self._q

    def letter(self, index):
        """The letter at an index, which is any integer."""
        length = self.round_length
        if index * self._q % length + self._q >= length:
            return "u"
        return "r"

    # word[start, stop] is the text from start to stop - 1. There is no
    # docstring, so that the unpacking is the first statement: whoever tries to
    # iterate over a word, which has no end, fails there.
    def __getitem__(self, at):
        start, stop = at
        return "".join([self.letter(index) for index in range(start, stop)])

    def upper_count(self, stop):
        """How many of the letters from index 0 to stop - 1 are "u"."""
        # The letter at k is "u" where k * q // n grows by 1 (n is the length
        # of a round), so the number of these letters is this quotient itself.
        return stop * self._q // self.round_length
