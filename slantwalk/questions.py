"""Questions about the rings of one direction."""

from slantwalk.errors import InvalidRoom

THROUGH = "through"
RINGS = "rings"
ROUNDS = "rounds"
NOT = "not"
AND = "and"
OR = "or"


def check_rooms(question, size):
    """Raise InvalidRoom for the first room of a question that is not one of that many rooms."""
    for room in question.rooms:
        # A negative index would be counted from the end of a list.
        if not 0 <= room < size:
            raise InvalidRoom(room)


def _holds(tree, rings):
    kind = tree[0]
    if kind == NOT:
        return not _holds(tree[1], rings)
    if kind == AND:
        return _holds(tree[1], rings) and _holds(tree[2], rings)
    if kind == OR:
        return _holds(tree[1], rings) or _holds(tree[2], rings)
    return _atom_holds(tree, rings)


def _atom_holds(tree, rings):
    kind = tree[0]
    if kind == THROUGH:
        a, b = tree[1], tree[2]
        return all([b in passed for start, rounds, passed in rings if a in passed])
    bound = tree[1]
    if kind == RINGS:
        return len(rings) <= bound
    return all([rounds >= bound for start, rounds, passed in rings])


def _rooms_read(tree):
    kind = tree[0]
    if kind == THROUGH:
        return [tree[1], tree[2]]
    if kind == RINGS or kind == ROUNDS:
        return []
    return [room for part in tree[1:] for room in _rooms_read(part)]


def _renamed(tree, order):
    kind = tree[0]
    if kind == THROUGH:
        return (kind, order[tree[1]], order[tree[2]])
    if kind == RINGS or kind == ROUNDS:
        return tree
    parts = [_renamed(part, order) for part in tree[1:]]
    return (kind, *parts)


class Question:
    """A question, as a tree of atoms and operators."""

    def __init__(self, tree):
        self._tree = tree

    @staticmethod
    def through(a, b):
        """The question whether every ring through room a also passes room b."""
        return Question((THROUGH, a, b))

    @staticmethod
    def most_rings(k):
        """The question whether there are at most k rings."""
        return Question((RINGS, k))

    @staticmethod
    def least_rounds(k):
        """The question whether no ring has fewer than k rounds."""
        return Question((ROUNDS, k))

    @property
    def tree(self):
        """The tree, as nested tuples."""
        return self._tree

    @property
    def rooms(self):
        """The rooms of the question from left to right, each one once, as a tuple."""
        once = []
        for room in _rooms_read(self._tree):
            if room not in once:
                once.append(room)
        return tuple(once)

    def __invert__(self):
        """The question that holds where this one does not hold."""
        return Question((NOT, self._tree))

    def __and__(self, other):
        """The question that holds where both hold."""
        return Question((AND, self._tree, other._tree))

    def __or__(self, other):
        """The question that holds where at least one of both holds."""
        return Question((OR, self._tree, other._tree))

    def __eq__(self, other):
        return isinstance(other, Question) and self._tree == other._tree

    def holds(self, rings):
        """True if the question holds for a list of rings."""
        return _holds(self._tree, rings)

    def renamed(self, order):
        """The question with the number order[i] in the place of each room i."""
        check_rooms(self, len(order))
        return Question(_renamed(self._tree, order))
