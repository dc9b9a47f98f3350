"""The written form of questions."""

from slantwalk.errors import InvalidQuestion
from slantwalk.questions import AND, NOT, OR, Question

LETTERS = "abcdefghijklmnopqrstuvwxyz"
DIGITS = "0123456789"
MOST_DIGITS = 9

# How many numbers follow the word of an atom.
NUMBERS_BEHIND = {"through": 2, "rings": 1, "rounds": 1}

# The operator that binds tighter has the greater number. An opening bracket
# waits for its closing bracket, whatever stands between them.
TIGHTNESS = {"(": 0, "|": 1, "&": 2, "~": 3}


def format_question(question):
    """The written form of a question."""
    return _written(question.tree)


def parse_question(text):
    """The question that a text is the written form of, also with other brackets and spaces."""
    reading = Reading()
    for at, token in _tokens_of(text):
        if not reading.takes(token):
            raise InvalidQuestion(at)
    if not reading.is_complete():
        raise InvalidQuestion(len(text))
    return Question(reading.whole_tree())


def _written(tree):
    kind = tree[0]
    if kind == NOT:
        return "~" + _bracketed(tree[1], (AND, OR))
    if kind == AND:
        return _bracketed(tree[1], (OR,)) + " & " + _bracketed(tree[2], (AND, OR))
    if kind == OR:
        return _written(tree[1]) + " | " + _bracketed(tree[2], (OR,))
    return " ".join([str(part) for part in tree])


def _bracketed(tree, kinds):
    if tree[0] in kinds:
        return "(" + _written(tree) + ")"
    return _written(tree)


def _tokens_of(text):
    tokens = []
    at = 0
    while at < len(text):
        stop = _end_of_token(text, at)
        if text[at] != " ":
            tokens.append((at, text[at:stop]))
        at = stop
    return tokens


def _end_of_token(text, at):
    for kind in (LETTERS, DIGITS):
        if text[at] in kind:
            stop = at
            while stop < len(text) and text[stop] in kind:
                stop += 1
            return stop
    return at + 1


def _is_number(token):
    if token[0] not in DIGITS or len(token) > MOST_DIGITS:
        return False
    return token == "0" or token[0] != "0"


class Reading:
    """A text of which the tokens are taken one by one, and what is still to come.

    It keeps no stack of calls, so brackets may stand within each other as
    often as the text says.
    """

    def __init__(self):
        # The operands that are complete, and the operators and opening brackets
        # that wait for an operand or a closing bracket, from left to right.
        self._operands = []
        self._waiting = []
        # The atom that is read now, and how many numbers it lacks.
        self._atom = []
        self._lacking = 0
        self._behind_operand = False

    def takes(self, token):
        """Take the next token; False if it cannot stand here."""
        if self._lacking > 0:
            return self._takes_number(token)
        if self._behind_operand:
            return self._takes_behind_operand(token)
        return self._takes_before_operand(token)

    def is_complete(self):
        """True if the text may end here."""
        return self._behind_operand and "(" not in self._waiting

    def whole_tree(self):
        """The tree of the question, where the text may end."""
        self._apply_down_to(TIGHTNESS["|"])
        return self._operands[0]

    def _takes_number(self, token):
        if not _is_number(token):
            return False
        self._atom.append(int(token))
        self._lacking -= 1
        if self._lacking == 0:
            self._operands.append(tuple(self._atom))
            self._behind_operand = True
        return True

    def _takes_before_operand(self, token):
        if token in NUMBERS_BEHIND:
            self._atom = [token]
            self._lacking = NUMBERS_BEHIND[token]
            return True
        if token == "~" or token == "(":
            self._waiting.append(token)
            return True
        return False

    def _takes_behind_operand(self, token):
        if token == "&" or token == "|":
            self._apply_down_to(TIGHTNESS[token])
            self._waiting.append(token)
            self._behind_operand = False
            return True
        if token == ")" and "(" in self._waiting:
            self._apply_down_to(TIGHTNESS["|"])
            self._waiting.pop()
            return True
        return False

    def _apply_down_to(self, least):
        # Operators of the same tightness are applied too: they associate to
        # the left.
        while self._waiting and TIGHTNESS[self._waiting[-1]] >= least:
            self._apply(self._waiting.pop())

    def _apply(self, sign):
        last = self._operands.pop()
        if sign == "~":
            self._operands.append((NOT, last))
        elif sign == "&":
            self._operands.append((AND, self._operands.pop(), last))
        else:
            self._operands.append((OR, self._operands.pop(), last))
