"""Directions p:q, their tree and their order."""

from math import gcd

from slantwalk.errors import InvalidDirection, NotInTree

FLAT = "flat"
STEEP = "steep"


def check_direction(p, q):
    """Raise InvalidDirection if p:q is not a direction."""
    if p < 0 or q < 0 or gcd(p, q) != 1:
        raise InvalidDirection(p, q)


def check_in_tree(p, q):
    """Raise InvalidDirection, or NotInTree for a side direction."""
    check_direction(p, q)
    if p == 0 or q == 0:
        raise NotInTree(p, q)


def level(p, q):
    """The level of a direction in the tree; 0 for a side direction."""
    check_direction(p, q)
    if p == 0 or q == 0:
        return 0
    return 1 + sum([count for _, count in steps(p, q)])


def steps(p, q):
    """The runs of steps from 1:1 to a direction in the tree."""
    check_in_tree(p, q)
    runs = []
    # From the flat child of 1:1 on, the tree is the whole tree again with
    # p + q : q in the place of each p:q, and p : p + q from the steep child on.
    # So to take away q from p takes away a first flat step. A run may have 40
    # digits and is taken away at once; p - 1 (or q - 1) lets it end at 1:1 and
    # not at a side direction.
    while p != q:
        if p > q:
            count = (p - 1) // q
            runs.append((FLAT, count))
            p = p - count * q
        else:
            count = (q - 1) // p
            runs.append((STEEP, count))
            q = q - count * p
    return runs


def direction_of(runs):
    """The direction to which runs of steps lead from 1:1."""
    (a, b), (c, d) = _neighbors_after(runs)
    return (a + c, b + d)


def neighbors(p, q):
    """The flat and the steep neighbor of a direction in the tree."""
    return _neighbors_after(steps(p, q))


def _neighbors_after(runs):
    a, b = 1, 0
    c, d = 0, 1
    # Each flat step adds the flat neighbor to the steep one, and each steep
    # step the steep neighbor to the flat one; a run adds it all at once,
    # because a count may have 40 digits.
    for kind, count in runs:
        if kind == FLAT:
            c, d = c + count * a, d + count * b
        else:
            a, b = a + count * c, b + count * d
    return ((a, b), (c, d))


def comes_before(one, two):
    """True if one direction comes before another: by level, then by q / p."""
    level_one = level(one[0], one[1])
    level_two = level(two[0], two[1])
    if level_one != level_two:
        return level_one < level_two
    # q / p of the one is less than q / p of the other, also where p is 0.
    return one[1] * two[0] < two[1] * one[0]


def first_directions(count):
    """Yield the first directions, as many as count, in their order."""
    if count > 0:
        yield (1, 0)
    if count > 1:
        yield (0, 1)
    for place in range(1, count - 1):
        yield _direction_at(place)


def _direction_at(place):
    # The tree in its order, numbered from 1 for 1:1: the children of the
    # direction at place k stand at 2 * k (flat) and 2 * k + 1 (steep).
    runs = []
    while place > 1:
        if place % 2 == 0:
            runs.append((FLAT, 1))
        else:
            runs.append((STEEP, 1))
        place = place // 2
    return direction_of(runs[::-1])
