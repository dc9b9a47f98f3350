"""The different pairs of tables: how they are found, written down and checked.

A row (first, second, flat, steep) tells of one pair: the forms of its two
tables, and the numbers of the rows of its flat and of its steep child.
"""

from slantwalk.directions import neighbors
from slantwalk.errors import TooManyPairs
from slantwalk.plans import is_order
from slantwalk.tables import WalkTable, mark_of

LIMIT = 200000


def copied(entries):
    """A copy of a list, or None for None."""
    return None if entries is None else list(entries)


class PairSearch:
    """The different pairs of a direction in the tree and of the directions below it.

    They are numbered in the order of the first direction that has the pair. A
    pair that was there before is not followed: what lies below it has the pairs
    that lie below the first one, and comes later in the order.
    """

    def __init__(self, pair, under):
        """The pair is that of the direction under, or that of 1:1 if under is None."""
        # Each table is kept once, and has a number of its own: there may be
        # far fewer tables than pairs.
        self._tables = []
        self._table_numbers = {}
        self._pairs = []
        self._pair_numbers = {}
        # For each pair the neighbors of its first direction, and for each pair
        # that was visited the numbers of the pairs of the two children.
        self._neighbors = []
        self._children = []
        self._from_the_sides = under is None
        p, q = (1, 1) if under is None else under
        first, second = pair
        self._number_of((self._table_number(first), self._table_number(second)), neighbors(p, q))

    def asked(self, limit):
        """Yield (direction, table of one round): the side directions, if under is None, and one for each pair."""
        if self._from_the_sides:
            first, second = self._pairs[0]
            yield ((1, 0), self._tables[first])
            yield ((0, 1), self._tables[second])
        number = 0
        while number < len(self._pairs):
            if number == limit:
                raise TooManyPairs(limit)
            yield (self._first_direction(number), self._visit(number))
            number += 1

    def rows(self):
        """The certificate, as a list of rows, after all directions were asked."""
        forms = [table.form for table in self._tables]
        return [
            (forms[first], forms[second], flat, steep)
            for (first, second), (flat, steep) in zip(self._pairs, self._children)
        ]

    def _table_number(self, table):
        number = self._table_numbers.setdefault(table.form, len(self._tables))
        if number == len(self._tables):
            self._tables.append(table)
        return number

    def _number_of(self, pair, beside):
        number = self._pair_numbers.setdefault(pair, len(self._pairs))
        if number == len(self._pairs):
            self._pairs.append(pair)
            self._neighbors.append(beside)
        return number

    def _first_direction(self, number):
        (a, b), (c, d) = self._neighbors[number]
        return (a + c, b + d)

    def _visit(self, number):
        first, second = self._pairs[number]
        table = self._tables[first] * self._tables[second]
        joined = self._table_number(table)
        flat_neighbor, steep_neighbor = self._neighbors[number]
        direction = self._first_direction(number)
        flat = self._number_of((first, joined), (flat_neighbor, direction))
        steep = self._number_of((joined, second), (direction, steep_neighbor))
        self._children.append((flat, steep))
        return table


def rows_fit(certificate, pair):
    """True if row 0 is a pair of tables, and each row is well formed and leads to the rows of its children."""
    first, second = pair
    if len(certificate) == 0 or not _is_row_of(certificate[0], first.form, second.form):
        return False
    return all([_fits(row, certificate, first.size) for row in certificate])


def joins_of(certificate):
    """The join of each row's tables, for rows that fit: it stands in the row of the flat child."""
    return [_table_of(certificate[flat][1]) for first, second, flat, steep in certificate]


def _is_row_of(row, first, second):
    return row[0] == first and row[1] == second


def _table_of(form):
    ends, marks = form
    return WalkTable(ends, marks)


def _fits(row, certificate, size):
    first, second, flat, steep = row
    if not (_is_form(first, size) and _is_form(second, size)):
        return False
    # A negative index would be counted from the end of the list.
    if not (0 <= flat < len(certificate) and 0 <= steep < len(certificate)):
        return False
    joined = (_table_of(first) * _table_of(second)).form
    return _is_row_of(certificate[flat], first, joined) and _is_row_of(certificate[steep], joined, second)


def _is_form(form, size):
    if len(form) != 2:
        return False
    ends, marks = form
    if not (is_order(ends, size) and len(marks) == size):
        return False
    return all([0 <= mark < mark_of(size) for mark in marks])
