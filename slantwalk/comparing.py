"""Comparing plans by the numbers of rounds of their rings."""

from slantwalk.certificates import LIMIT, PairSearch, copied, joins_of, rows_fit
from slantwalk.plans import side_by_side
from slantwalk.rings import rings_of
from slantwalk.tables import WalkTable


class Comparison:
    """Whether two plans are alike: a certificate, or the first direction in which they differ."""

    def __init__(self, certificate, direction, lists):
        """Either a certificate is given, or a direction and two lists; the others are None."""
        self._certificate = copied(certificate)
        self._direction = direction
        self._lists = lists

    @property
    def alike(self):
        """True if the lists are equal in every direction."""
        return self._direction is None

    @property
    def certificate(self):
        """The certificate as a list of rows, or None."""
        return copied(self._certificate)

    @property
    def direction(self):
        """The first direction in which the lists differ, or None."""
        return self._direction

    @property
    def lists(self):
        """The two lists in this direction as tuples, or None."""
        return self._lists


def compare(plan, other, *, limit=LIMIT):
    """Compare two plans in every direction."""
    search = PairSearch(_side_tables(plan, other), None)
    for direction, table in search.asked(limit):
        one, two = _two_lists(table, plan.size)
        if one != two:
            return Comparison(None, direction, (one, two))
    return Comparison(search.rows(), None, None)


def check_alike(plan, other, certificate):
    """True if a certificate shows that two plans are alike."""
    pair = _side_tables(plan, other)
    if not rows_fit(certificate, pair):
        return False
    lists = [_two_lists(table, plan.size) for table in [*pair, *joins_of(certificate)]]
    return all([one == two for one, two in lists])


def ring_lists(plan, *, limit=LIMIT):
    """All lists of numbers of rounds that occur in a plan, each with the first direction in which it occurs."""
    found = []
    seen = set()
    search = PairSearch((_without_marks(plan.right), _without_marks(plan.above)), None)
    for direction, table in search.asked(limit):
        rounds = _rounds_of(rings_of(table))
        if rounds not in seen:
            seen.add(rounds)
            found.append((direction, rounds))
    return found


def _side_tables(plan, other):
    right = side_by_side(plan.right, other.right)
    above = side_by_side(plan.above, other.above)
    return (_without_marks(right), _without_marks(above))


def _without_marks(ends):
    return WalkTable(ends, [0] * len(ends))


def _rounds_of(rings):
    return tuple(sorted([rounds for start, rounds, passed in rings]))


def _two_lists(table, size):
    # The rooms of the first plan have the numbers below its size.
    rings = rings_of(table)
    first = [ring for ring in rings if ring[0] < size]
    second = [ring for ring in rings if ring[0] >= size]
    return (_rounds_of(first), _rounds_of(second))
