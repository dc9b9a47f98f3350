"""Deciding a question in every direction at once."""

from slantwalk.certificates import LIMIT, PairSearch, copied, joins_of, rows_fit
from slantwalk.questions import check_rooms
from slantwalk.rings import rings_at, rings_of
from slantwalk.walking import pair_at, side_tables


class Answer:
    """Whether a question holds in every direction: a certificate, or the first direction in which it does not."""

    def __init__(self, certificate, direction, rings):
        """Either a certificate is given, or a direction and its rings; the others are None."""
        self._certificate = copied(certificate)
        self._direction = direction
        self._rings = copied(rings)

    @property
    def always(self):
        """True if the question holds in every direction that was asked."""
        return self._direction is None

    @property
    def certificate(self):
        """The certificate as a list of rows, or None."""
        return copied(self._certificate)

    @property
    def direction(self):
        """The first direction in which the question does not hold, or None."""
        return self._direction

    @property
    def rings(self):
        """The list of the rings in this direction, or None."""
        return copied(self._rings)


def decide(plan, question, *, under=None, limit=LIMIT):
    """Ask a question in every direction, or in a direction of the tree and in those below it."""
    check_rooms(question, plan.size)
    search = PairSearch(_first_pair(plan, under), under)
    for direction, table in search.asked(limit):
        rings = rings_of(table)
        if not question.holds(rings):
            return Answer(None, direction, rings)
    return Answer(search.rows(), None, None)


def holds_at(plan, question, p, q):
    """True if a question holds in one direction."""
    check_rooms(question, plan.size)
    return question.holds(rings_at(plan, p, q))


def check_certificate(plan, question, certificate, *, under=None):
    """True if a certificate shows that a question holds in all directions that decide would ask."""
    check_rooms(question, plan.size)
    pair = _first_pair(plan, under)
    if not rows_fit(certificate, pair):
        return False
    tables = joins_of(certificate)
    if under is None:
        tables = [*pair, *tables]
    return all([question.holds(rings_of(table)) for table in tables])


def _first_pair(plan, under):
    if under is None:
        return side_tables(plan)
    p, q = under
    return pair_at(plan, p, q)
