"""The errors that the program raises."""

# Python refuses to write out integers of some thousand digits. A message
# leaves out what is not short, so that creating an error never fails.
_LONG = 10 ** 60


def _shown(number):
    if -_LONG < number < _LONG:
        return str(number)
    return "(a number of more than 60 digits)"


class SlantError(ValueError):
    """The base class of all errors of the program."""


class InvalidPlan(SlantError):
    """Lists are not a plan, or a list is not an order of the rooms."""


class InvalidRoom(SlantError):
    """There is no such room."""

    def __init__(self, room):
        super().__init__(f"there is no room {_shown(room)}")
        self.room = room


class InvalidDirection(SlantError):
    """Two numbers are not a direction."""

    def __init__(self, p, q):
        super().__init__(f"no direction that is allowed here: {_shown(p)}:{_shown(q)}")
        self.p = p
        self.q = q


class NotInTree(InvalidDirection):
    """A side direction stands where a direction in the tree is needed."""


class UnlikeSizes(SlantError):
    """Two tables that are joined have different sizes."""

    def __init__(self, first, second):
        super().__init__(f"the sizes differ: {_shown(first)} and {_shown(second)}")
        self.first = first
        self.second = second


class InvalidQuestion(SlantError):
    """A text is not the written form of a question."""

    def __init__(self, at):
        super().__init__(f"not a question, from index {_shown(at)} on")
        self.at = at


class TooManyPairs(SlantError):
    """There are more different pairs of tables than the limit allows."""

    def __init__(self, limit):
        super().__init__(f"more different pairs than {_shown(limit)}")
        self.limit = limit
