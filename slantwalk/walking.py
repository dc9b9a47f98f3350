"""Walks through a plan in a direction, one by one and as walk tables."""

from slantwalk.directions import FLAT, check_direction, steps
from slantwalk.errors import InvalidRoom
from slantwalk.tables import WalkTable, mark_of
from slantwalk.words import CrossingWord


class Stretch:
    """Consecutive crossings: copies of shorter stretches, one after the other.

    The table is the walk table, the length is the number of crossings, and the
    parts are the pairs (shorter stretch, number of its copies), from left to
    right. A single crossing has no parts.
    """

    def __init__(self, table, length, parts):
        self.table = table
        self.length = length
        self.parts = parts


def side_tables(plan):
    """The tables of one crossing of a right side and of one crossing of an upper side."""
    marks = [mark_of(room) for room in range(plan.size)]
    return (WalkTable(plan.right, marks), WalkTable(plan.above, marks))


def pair_at(plan, p, q):
    """The tables of one round of the flat and of the steep neighbor of a direction in the tree."""
    flat, steep = _rounds_of_neighbors(plan, p, q)
    return (flat.table, steep.table)


def walk_table(plan, p, q, *, crossings=None):
    """The table of the first crossings in a direction, or of one round."""
    one_round = _stretch_of_round(plan, p, q)
    if crossings is None:
        return one_round.table
    return _beginning(one_round, crossings)


def rooms_passed(plan, p, q, *, start=0, crossings=None):
    """Yield the rooms that the walk from a room leaves: in its first crossings, or until it is closed."""
    word = CrossingWord(p, q)
    if not 0 <= start < plan.size:
        raise InvalidRoom(start)
    room = start
    index = 0
    while crossings is None or index < crossings:
        yield room
        room = plan.behind(room, word.letter(index))
        index += 1
        if crossings is None and room == start and index % word.round_length == 0:
            return


def _side_stretches(plan):
    right, above = side_tables(plan)
    return (Stretch(right, 1, []), Stretch(above, 1, []))


def _put_together(one, copies_of_one, two, copies_of_two):
    table = one.table.repeated(copies_of_one) * two.table.repeated(copies_of_two)
    length = one.length * copies_of_one + two.length * copies_of_two
    return Stretch(table, length, [(one, copies_of_one), (two, copies_of_two)])


def _rounds_of_neighbors(plan, p, q):
    runs = steps(p, q)
    flat, steep = _side_stretches(plan)
    # Each flat step puts the round of the flat neighbor before that of the
    # steep one, and each steep step that of the steep neighbor behind that of
    # the flat one; a run puts all copies there at once.
    for kind, count in runs:
        if kind == FLAT:
            steep = _put_together(flat, count, steep, 1)
        else:
            flat = _put_together(flat, 1, steep, count)
    return (flat, steep)


def _stretch_of_round(plan, p, q):
    check_direction(p, q)
    if p == 0 or q == 0:
        right, above = _side_stretches(plan)
        return right if q == 0 else above
    flat, steep = _rounds_of_neighbors(plan, p, q)
    return _put_together(flat, 1, steep, 1)


def _beginning(one_round, crossings):
    table = WalkTable.resting(one_round.table.size)
    left = crossings
    # As many rounds as crossings are surely enough. Copies that fit as a whole
    # are walked at once; the rest lies in the parts of the first copy that does
    # not fit, so what waits behind this copy is not reached.
    waiting = [(one_round, crossings)]
    while left > 0:
        stretch, copies = waiting.pop()
        whole = min(left // stretch.length, copies)
        table = table * stretch.table.repeated(whole)
        left = left - whole * stretch.length
        if whole < copies:
            waiting = stretch.parts[::-1]
    return table
