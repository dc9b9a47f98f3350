"""Rings: the closed walks of a walk table."""

from slantwalk.tables import rooms_in
from slantwalk.walking import walk_table


def rings_of(table):
    """The rings of a table as tuples (start, rounds, passed), in ascending order of their starts."""
    ends, marks = table.form
    placed = set()
    rings = []
    for start in range(table.size):
        if start not in placed:
            members = _ring_from(start, ends)
            mark = 0
            for room in members:
                placed.add(room)
                mark = mark | marks[room]
            rings.append((start, len(members), rooms_in(mark)))
    return rings


def rings_at(plan, p, q):
    """The rings of a plan in a direction."""
    return rings_of(walk_table(plan, p, q))


def _ring_from(start, ends):
    members = [start]
    room = ends[start]
    while room != start:
        members.append(room)
        room = ends[room]
    return members
