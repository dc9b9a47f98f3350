"""Pairs of tables, rings and certificates for the tests, made direction by direction from walks."""

from slantwalk.directions import neighbors
from slantwalk.plans import Plan
from tests.tree import TOP, rows_of_tree
from tests.walks import form_of_crossings, form_of_walks, letters_of, stride

# For each plan the number of levels of the tree after which no new pair comes,
# for tables with marks.
SMALL = (
    (Plan([0], [0]), 2),
    (Plan([0, 1], [0, 1]), 2),
    (Plan([1, 0], [0, 1]), 5),
    (Plan([1, 0], [1, 0]), 5),
    (Plan([1, 0, 2], [0, 1, 2]), 5),
    (Plan([1, 2, 0], [0, 1, 2]), 7),
    (Plan([1, 2, 0], [2, 0, 1]), 8),
    (Plan([1, 2, 3, 0], [0, 1, 2, 3]), 9),
    (Plan([1, 0, 2], [2, 1, 0]), 11),
    (Plan([1, 0, 2], [2, 1, 0]).renumbered([2, 0, 1]) + Plan([0], [0]), 11),
)
ROTATIONS = tuple(Plan(stride(size, 1, one), stride(size, 1, two)) for size, one, two in ((23, 1, 0), (29, 2, 5)))


class Walks:
    """The forms of one round of a plan in each direction, each one made once."""

    def __init__(self, plan):
        self.plan = plan
        self.known = {}

    def form(self, direction):
        if direction not in self.known:
            p, q = direction
            short = p + q < 2000
            self.known[direction] = (
                form_of_walks(self.plan, letters_of(p, q, p + q)) if short
                else form_of_crossings(self.plan, p, q, p + q)
            )
        return self.known[direction]


class EndsAlone:
    """The same without marks, for one plan or for several plans side by side."""

    def __init__(self, *plans):
        self.walks = [Walks(plan) for plan in plans]

    def form(self, direction):
        ends = []
        for walks in self.walks:
            shift = len(ends)
            ends.extend(shift + end for end in walks.form(direction)[0])
        return (tuple(ends), (0,) * len(ends))


def start_of(under):
    return TOP if under is None else neighbors(*under)


def first_directions_of_pairs(walks, levels, under=None):
    """For each different pair of forms the neighbors of its first direction, in order, as a dict."""
    found = {}
    for level, rows in enumerate(rows_of_tree(levels, start_of(under))):
        for _, (flat, steep), _ in rows:
            pair = (walks.form(flat), walks.form(steep))
            assert pair in found or level < levels - 1 or levels == 1, "the levels are too few"
            found.setdefault(pair, (flat, steep))
    return found


def certificate_of(walks, levels, under=None):
    """The certificate by the words of point 19."""
    firsts = first_directions_of_pairs(walks, levels, under)
    numbers = {pair: number for number, pair in enumerate(firsts)}
    rows = []
    for (first, second), (flat, steep) in firsts.items():
        middle = walks.form((flat[0] + steep[0], flat[1] + steep[1]))
        rows.append((first, second, numbers[first, middle], numbers[middle, second]))
    return rows


def rings_of_form(form):
    """The rings by the words of point 13, with no more than the form."""
    ends, marks = form
    found = []
    for start in range(len(ends)):
        members = [start]
        while ends[members[-1]] != start:
            members.append(ends[members[-1]])
        if start == min(members):
            passed = [room for room in range(len(ends)) if any(marks[member] >> room & 1 for member in members)]
            found.append((start, len(members), tuple(passed)))
    return found


def directions_asked(levels, under=None):
    """The side directions, if no direction is given, and those of the first levels from it on, in their order."""
    sides = [(1, 0), (0, 1)] if under is None else []
    return sides + [direction for rows in rows_of_tree(levels, start_of(under)) for direction, _, _ in rows]


def rounds_of(form, low=0, high=None):
    """The ascending tuple of the numbers of rounds of the rings with starts from low on and below high."""
    high = len(form[0]) if high is None else high
    return tuple(sorted(rounds for start, rounds, _ in rings_of_form(form) if low <= start < high))
