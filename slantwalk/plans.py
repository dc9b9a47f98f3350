"""Plans of square rooms that are glued side to side."""

from slantwalk.errors import InvalidPlan, InvalidRoom


def is_order(rooms, size):
    """True if a list contains each room of that many exactly once."""
    return sorted(rooms) == list(range(size))


def side_by_side(one, two):
    """A list of sides with a second one behind it, whose rooms get the numbers that follow."""
    shift = len(one)
    shifted = [room + shift for room in two]
    return [*one, *shifted]


def _inverse(sides):
    inverse = [0] * len(sides)
    for room, there in enumerate(sides):
        inverse[there] = room
    return inverse


def _with_numbers(order, sides):
    changed = [0] * len(sides)
    for room, there in enumerate(sides):
        changed[order[room]] = order[there]
    return changed


class Plan:
    """A plan: the rooms behind all right sides and behind all upper sides."""

    MOST_ROOMS = 100

    def __init__(self, right, above):
        size = len(right)
        if not 1 <= size <= Plan.MOST_ROOMS:
            raise InvalidPlan("a plan has from 1 to 100 rooms")
        if not is_order(right, size):
            raise InvalidPlan("the first list does not contain each room exactly once")
        if not is_order(above, size):
            raise InvalidPlan("the second list does not contain each room exactly once")
        self._right = tuple(right)
        self._above = tuple(above)

    @property
    def size(self):
        """The number of rooms."""
        return len(self._right)

    @property
    def right(self):
        """The rooms behind the right sides, as a tuple."""
        return self._right

    @property
    def above(self):
        """The rooms behind the upper sides, as a tuple."""
        return self._above

    def behind(self, room, letter):
        """The room behind the right side ("r") or the upper side ("u") of a room."""
        # A negative index would be counted from the end of the tuple.
        if not 0 <= room < self.size:
            raise InvalidRoom(room)
        if letter == "r":
            return self._right[room]
        return self._above[room]

    def turned(self):
        """The plan after the walker has made a quarter turn to the left."""
        return Plan(self._above, _inverse(self._right))

    def mirrored(self):
        """The plan with the two lists exchanged."""
        return Plan(self._above, self._right)

    def renumbered(self, order):
        """The plan in which each room i has the number order[i]."""
        if not is_order(order, self.size):
            raise InvalidPlan("the order does not contain each room exactly once")
        return Plan(_with_numbers(order, self._right), _with_numbers(order, self._above))

    def __add__(self, other):
        """The plan with the rooms of both, and no side from one part to the other."""
        right = side_by_side(self._right, other._right)
        above = side_by_side(self._above, other._above)
        return Plan(right, above)

    def __eq__(self, other):
        return isinstance(other, Plan) and self._right == other._right and self._above == other._above

    def halls(self):
        """The halls as ascending tuples, in ascending order of their least rooms."""
        found = []
        placed = set()
        for room in range(self.size):
            if room not in placed:
                hall = self._hall_of(room)
                found.append(hall)
                for member in hall:
                    placed.add(member)
        return found

    def _hall_of(self, room):
        # Each list contains each room once, so whoever goes on crossing the
        # same kind of side comes back: crossing forwards reaches the whole hall.
        reached = {room}
        waiting = [room]
        while waiting:
            here = waiting.pop()
            for there in (self._right[here], self._above[here]):
                if there not in reached:
                    reached.add(there)
                    waiting.append(there)
        return tuple(sorted(reached))
