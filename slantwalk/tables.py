"""Walk tables: walks over the same crossings from every room."""

from slantwalk.errors import InvalidRoom, UnlikeSizes


def mark_of(room):
    """The mark of a room alone."""
    return 1 << room


def rooms_in(mark):
    """The rooms that a mark contains, as an ascending tuple."""
    return tuple([room for room in range(mark.bit_length()) if (mark >> room) & 1 == 1])


class WalkTable:
    """Where the walk from each room ends, and the mark of the rooms that it leaves."""

    def __init__(self, ends, marks):
        self._ends = tuple(ends)
        self._marks = tuple(marks)

    @staticmethod
    def resting(size):
        """The table of walks without crossings."""
        return WalkTable(list(range(size)), [0] * size)

    @property
    def size(self):
        """The number of rooms."""
        return len(self._ends)

    @property
    def ends(self):
        """The rooms in which the walks end, as a tuple."""
        return self._ends

    @property
    def marks(self):
        """The marks of the rooms that the walks leave, as a tuple."""
        return self._marks

    @property
    def form(self):
        """The ends and the marks, as one tuple."""
        return (self._ends, self._marks)

    def left_from(self, room):
        """The rooms that the walk from a room leaves, as an ascending tuple."""
        # A negative index would be counted from the end of the tuple.
        if not 0 <= room < self.size:
            raise InvalidRoom(room)
        return rooms_in(self._marks[room])

    def __mul__(self, other):
        """The table of the walks of this table that go on with the walks of the other."""
        if self.size != other.size:
            raise UnlikeSizes(self.size, other.size)
        ends = [other._ends[there] for there in self._ends]
        marks = [mark | other._marks[there] for there, mark in zip(self._ends, self._marks)]
        return WalkTable(ends, marks)

    def repeated(self, count):
        """The join of as many copies of the table as count says."""
        # The count may have 80 digits: the copies are joined by doubling.
        joined = WalkTable.resting(self.size)
        power = self
        while count > 0:
            if count % 2 == 1:
                joined = joined * power
            power = power * power
            count = count // 2
        return joined

    def __pow__(self, other):
        """The join of copies of the table; other is their number."""
        return self.repeated(other)

    def __eq__(self, other):
        return isinstance(other, WalkTable) and self._ends == other._ends and self._marks == other._marks
