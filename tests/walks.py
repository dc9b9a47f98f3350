"""Walks for the tests: made letter by letter, and for long numbers by another way than that of the program."""

from slantwalk.plans import Plan
from tests.tree import fibonacci_pair

LONG = 10 ** 39
LOW, HIGH, _ = fibonacci_pair(40)
# One or two long runs of steps, several runs, and only runs of one step.
LONG_DIRECTIONS = (
    (LONG, 1), (1, LONG), (LONG, LONG - 1), (LONG - 1, LONG), (10 ** 20 + 1, LONG + 7), (7 * LONG + 2, 3 * LONG + 1),
    (6 * LONG - 1, LONG + 9 * 10 ** 19), (HIGH, LOW), (LOW, HIGH),
)
NO_DIRECTIONS = (
    (0, 0), (2, 0), (0, 2), (4, 2), (2, 4), (-1, 1), (1, -1), (-1, -1), (-1, 0), (0, -1), (LONG * 7, 7), (LONG, LONG),
)


def stride(size, factor, shift):
    """A list that contains each room once, if the factor and the size have no common divisor."""
    return [(room * factor + shift) % size for room in range(size)]


PLANS = (
    Plan([0], [0]),
    Plan([1, 0], [0, 1]),
    Plan([0, 1], [0, 1]),
    Plan([1, 0, 2], [2, 1, 0]),
    Plan([1, 2, 0, 4, 3, 5], [3, 1, 5, 0, 4, 2]),
    Plan(stride(7, 3, 2), stride(7, 1, 1)) + Plan([1, 2, 0], [0, 2, 1]),
)
HUNDRED = Plan(stride(100, 37, 11), [99, *range(99)])


def letters_of(p, q, many):
    """The first letters of the crossing word, by the formula of point 9."""
    length = p + q
    return "".join("u" if k * q % length + q >= length else "r" for k in range(many))


def walk(plan, start, letters):
    """The list of the rooms that the walk leaves, and the room in which it ends."""
    passed = []
    room = start
    for letter in letters:
        passed.append(room)
        room = plan.right[room] if letter == "r" else plan.above[room]
    return passed, room


def form_of_walks(plan, letters):
    """The form of the table of the walks from every room, each one made side by side."""
    walks = [walk(plan, start, letters) for start in range(plan.size)]
    ends = tuple(end for _, end in walks)
    return (ends, tuple(sum(2 ** room for room in set(passed)) for passed, _ in walks))


def joined(one, two):
    """The form of the join of two forms, by the words of point 11."""
    ends = tuple(two[0][end] for end in one[0])
    return (ends, tuple(mark | two[1][end] for end, mark in zip(*one)))


def copies(form, count):
    """The form of the join of many copies: the ends are followed around their rings."""
    ends, marks = [], []
    for start in range(len(form[0])):
        ring = [start]
        while form[0][ring[-1]] != start:
            ring.append(form[0][ring[-1]])
        ends.append(ring[count % len(ring)])
        mark = 0
        for room in ring[:count]:
            mark |= form[1][room]
        marks.append(mark)
    return (tuple(ends), tuple(marks))


def form_of_crossings(plan, p, q, count):
    """The form of the table of the first crossings, also for long numbers.

    The first letter is r, if there is one. Where p is not less than q, each u
    stands behind p // q letters r: they are taken together as one letter; where
    p is less than q, each r is taken together with the q // p letters u behind it.
    """
    right = form_of_walks(plan, "r")
    above = form_of_walks(plan, "u")
    tail = form_of_walks(plan, "")
    while p > 0 and q > 0:
        upper = count * q // (p + q)
        if p >= q:
            many = p // q
            p -= many * q
            whole = -(-upper * (p + q) // q)
            tail = joined(copies(right, count - whole - many * upper), tail)
            above = joined(copies(right, many), above)
            count = whole
        elif count > 0:
            many = q // p
            q -= many * p
            before = count - upper - 1
            whole = before + before * q // p
            rest = count - whole - many * before - 1
            tail = joined(joined(right, copies(above, rest)), tail)
            right = joined(right, copies(above, many))
            count = whole
        else:
            return tail
    return joined(copies(above if p == 0 else right, count), tail)
