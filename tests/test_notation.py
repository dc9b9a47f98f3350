import inspect
import itertools
import unittest

from slantwalk import notation
from slantwalk.errors import InvalidQuestion
from slantwalk.notation import format_question, parse_question
from slantwalk.questions import Question

MANY = 40
R, S, T = ("rings", 1), ("rounds", 2), ("through", 0, 3)


def trees(depth):
    """All trees over three atoms with at most that many operators within each other."""
    found = [R, S, T]
    for _ in range(depth):
        inner = found
        found = [R, S, T] + [("not", one) for one in inner]
        found += [(kind, one, two) for kind in ("and", "or") for one in inner for two in inner]
    return found


def bracketed(tree):
    """A text with brackets around everything."""
    kind = tree[0]
    if kind == "not":
        return "(~" + bracketed(tree[1]) + ")"
    if kind in ("and", "or"):
        return "(" + bracketed(tree[1]) + (" & " if kind == "and" else " | ") + bracketed(tree[2]) + ")"
    return "(" + " ".join(str(part) for part in tree) + ")"


def without_a_pair_of_brackets(text):
    """Each text that is left when one opening bracket and the closing bracket that belongs to it are taken away."""
    open_brackets = []
    for at, sign in enumerate(text):
        if sign == "(":
            open_brackets.append(at)
        elif sign == ")":
            start = open_brackets.pop()
            yield text[:start] + text[start + 1:at] + text[at + 1:]


class TestExamples(unittest.TestCase):
    def test_the_examples_of_the_document(self):
        self.assertEqual(
            parse_question("~(rings 2 | through 0 1)&rounds 2").tree,
            ("and", ("not", ("or", ("rings", 2), ("through", 0, 1))), ("rounds", 2)),
        )
        question = parse_question("(rings 3) & (rounds 2 & ~ (through 1 0))")
        self.assertEqual(format_question(question), "rings 3 & (rounds 2 & ~through 1 0)")
        with self.assertRaises(InvalidQuestion) as caught:
            parse_question("through 0 01")
        self.assertEqual(caught.exception.at, 10)

    def test_the_interface_is_defined_in_the_file(self):
        for name, wanted in (("format_question", "(question)"), ("parse_question", "(text)")):
            function = getattr(notation, name)
            self.assertEqual(function.__module__, "slantwalk.notation")
            self.assertEqual(str(inspect.signature(function)), wanted)


class TestFormat(unittest.TestCase):
    def check(self, tree, wanted):
        self.assertEqual(format_question(Question(tree)), wanted)
        self.assertEqual(parse_question(wanted).tree, tree)

    def test_atoms(self):
        self.check(("through", 0, 0), "through 0 0")
        self.check(("through", 12, 305), "through 12 305")
        self.check(("through", 305, 12), "through 305 12")
        self.check(("rings", 0), "rings 0")
        self.check(("rounds", 999999999), "rounds 999999999")

    def test_not(self):
        self.check(("not", T), "~through 0 3")
        self.check(("not", ("not", R)), "~~rings 1")
        self.check(("not", ("and", R, S)), "~(rings 1 & rounds 2)")
        self.check(("not", ("or", R, S)), "~(rings 1 | rounds 2)")
        self.check(("not", ("not", ("or", R, S))), "~~(rings 1 | rounds 2)")
        self.check(("and", ("not", R), ("not", S)), "~rings 1 & ~rounds 2")
        self.check(("or", ("not", R), ("not", S)), "~rings 1 | ~rounds 2")

    def test_and_and_or(self):
        self.check(("and", R, S), "rings 1 & rounds 2")
        self.check(("or", R, S), "rings 1 | rounds 2")
        self.check(("and", ("or", R, S), T), "(rings 1 | rounds 2) & through 0 3")
        self.check(("and", R, ("or", S, T)), "rings 1 & (rounds 2 | through 0 3)")
        self.check(("or", ("and", R, S), T), "rings 1 & rounds 2 | through 0 3")
        self.check(("or", R, ("and", S, T)), "rings 1 | rounds 2 & through 0 3")
        self.check(("and", ("or", R, S), ("or", S, T)), "(rings 1 | rounds 2) & (rounds 2 | through 0 3)")

    def test_the_same_operator_at_the_left_and_at_the_right(self):
        self.check(("and", ("and", R, S), T), "rings 1 & rounds 2 & through 0 3")
        self.check(("and", R, ("and", S, T)), "rings 1 & (rounds 2 & through 0 3)")
        self.check(("or", ("or", R, S), T), "rings 1 | rounds 2 | through 0 3")
        self.check(("or", R, ("or", S, T)), "rings 1 | (rounds 2 | through 0 3)")
        self.check(("and", ("and", R, S), ("and", S, T)), "rings 1 & rounds 2 & (rounds 2 & through 0 3)")
        self.check(("or", ("or", R, S), ("or", S, T)), "rings 1 | rounds 2 | (rounds 2 | through 0 3)")

    def test_what_is_written_is_read_back_and_no_brackets_are_needless(self):
        for tree in trees(2):
            text = format_question(Question(tree))
            self.assertEqual(parse_question(text), Question(tree))
            for shorter in without_a_pair_of_brackets(text):
                self.assertNotEqual(parse_question(shorter), Question(tree), text)

    def test_forty_operators_one_within_the_other(self):
        for make, wanted in (
            (lambda inner: ("not", inner), "~" * MANY + "rings 1"),
            (lambda inner: ("and", inner, S), "rings 1" + " & rounds 2" * MANY),
            (lambda inner: ("or", inner, S), "rings 1" + " | rounds 2" * MANY),
            (lambda inner: ("and", S, inner), "rounds 2 & (" * (MANY - 1) + "rounds 2 & rings 1" + ")" * (MANY - 1)),
            (lambda inner: ("or", S, inner), "rounds 2 | (" * (MANY - 1) + "rounds 2 | rings 1" + ")" * (MANY - 1)),
        ):
            tree = R
            for _ in range(MANY):
                tree = make(tree)
            self.check(tree, wanted)

    def test_forty_operators_of_two_kinds(self):
        half = MANY // 2
        tree = R
        for _ in range(half):
            tree = ("and", ("or", tree, S), T)
        self.check(tree, "(" * half + "rings 1" + " | rounds 2) & through 0 3" * half)
        tree = R
        for _ in range(half):
            tree = ("not", ("and", S, tree))
        self.check(tree, "~(rounds 2 & " * half + "rings 1" + ")" * half)


class TestParse(unittest.TestCase):
    def check(self, text, wanted):
        question = parse_question(text)
        self.assertIsInstance(question, Question)
        self.assertEqual(question.tree, wanted)
        self.assertEqual(question, Question(wanted))

    def test_kinds_of_the_values(self):
        tree = parse_question("~through 12 3 & rings 4").tree
        self.assertEqual([type(part) for part in (tree, tree[1], tree[1][1], tree[2])], [tuple] * 4)
        self.assertEqual([type(part) for part in tree[1][1]], [str, int, int])
        self.assertEqual([type(part) for part in tree[2]], [str, int])

    def test_numbers(self):
        for digits in ("0", "1", "9", "10", "20", "100", "123456789", "999999999"):
            self.check("rings " + digits, ("rings", int(digits)))
            self.check("rounds " + digits, ("rounds", int(digits)))
            self.check("through " + digits + " 0", ("through", int(digits), 0))
            self.check("through 0 " + digits, ("through", 0, int(digits)))

    def test_what_binds_tighter(self):
        self.check("~rings 1 & rounds 2", ("and", ("not", R), S))
        self.check("~rings 1 | rounds 2", ("or", ("not", R), S))
        self.check("rings 1 & rounds 2 | through 0 3", ("or", ("and", R, S), T))
        self.check("rings 1 | rounds 2 & through 0 3", ("or", R, ("and", S, T)))
        self.check("rings 1 | rounds 2 & ~through 0 3 | rings 1", ("or", ("or", R, ("and", S, ("not", T))), R))
        self.check("rings 1 & rounds 2 | through 0 3 & rings 1", ("or", ("and", R, S), ("and", T, R)))

    def test_from_the_left(self):
        self.check("rings 1 & rounds 2 & through 0 3", ("and", ("and", R, S), T))
        self.check("rings 1 | rounds 2 | through 0 3", ("or", ("or", R, S), T))
        self.check("rings 1 & rounds 2 & through 0 3 & rings 1", ("and", ("and", ("and", R, S), T), R))
        self.check("rings 1 | rounds 2 | through 0 3 | rings 1", ("or", ("or", ("or", R, S), T), R))

    def test_brackets(self):
        self.check("~(rings 1 & rounds 2)", ("not", ("and", R, S)))
        self.check("~(rings 1) & rounds 2", ("and", ("not", R), S))
        self.check("rings 1 & (rounds 2 & through 0 3)", ("and", R, ("and", S, T)))
        self.check("rings 1 | (rounds 2 | through 0 3)", ("or", R, ("or", S, T)))
        self.check("(rings 1 | rounds 2) & through 0 3", ("and", ("or", R, S), T))
        self.check("(rings 1 | rounds 2) & (through 0 3 | rings 1)", ("and", ("or", R, S), ("or", T, R)))
        self.check("(rings 1 & rounds 2 | through 0 3) & rings 1", ("and", ("or", ("and", R, S), T), R))

    def test_brackets_that_are_not_needed(self):
        self.check("(rings 1)", R)
        self.check("((through 0 3))", T)
        self.check("~((rings 1))", ("not", R))
        self.check("(~(~(rings 1)))", ("not", ("not", R)))
        self.check("((rings 1) & (rounds 2)) | ((through 0 3))", ("or", ("and", R, S), T))
        for tree in trees(2):
            self.check(bracketed(tree), tree)

    def test_forty_opening_brackets(self):
        self.check("(" * MANY + "rings 1" + ")" * MANY, R)
        self.check("~(" * MANY + "rings 1" + ")" * MANY, parse_question("~" * MANY + "rings 1").tree)
        self.check("(rings 1)|" * (MANY - 1) + "(rings 1)", parse_question("rings 1|" * (MANY - 1) + "rings 1").tree)
        tree = R
        for _ in range(MANY):
            tree = ("or", tree, S)
        self.check("(" * MANY + "rings 1" + " | rounds 2)" * MANY, tree)
        tree = R
        for _ in range(MANY):
            tree = ("and", S, tree)
        self.check("rounds 2 & (" * MANY + "rings 1" + ")" * MANY, tree)

    def test_spaces_at_every_place(self):
        parts = ["", "~", "(", "rings", "1", "&", "through", "0", "3", ")", "|", "~", "rounds", "2", ""]
        tree = ("or", ("not", ("and", R, T)), ("not", S))
        # Only between two numbers a space is needed.
        shortest = "~(rings1&through0 3)|~rounds2"
        self.check(shortest, tree)
        for space in (" ", "  ", " " * 7):
            self.check(space.join(parts), tree)
            for at in range(len(shortest) + 1):
                if shortest[max(at - 1, 0):at + 1].isalpha() and 0 < at < len(shortest):
                    continue
                self.check(shortest[:at] + space + shortest[at:], tree)

    def test_long_texts(self):
        for text, tree in (("rings 1", R), ("through 0 3", T), ("~(rounds 2)", ("not", S))):
            rest = 2000 - len(text)
            self.check(text + " " * rest, tree)
            self.check(" " * rest + text, tree)
            self.check(" " * (rest // 2) + text + " " * (rest - rest // 2), tree)
            self.check(text.replace(" ", " " * (rest + 1), 1), tree)
        text = " & ".join(["through 111111111 222222222"] * 41).ljust(2000)
        self.assertEqual(len(text), 2000)
        self.assertEqual(format_question(parse_question(text)), text.strip())


    def test_somewhat_more_than_the_document_allows(self):
        for many in (41, 60, 100):
            for text in (
                "~" * many + "rings 1", "rings 1" + " & rounds 2" * many, "rings 1" + " | rounds 2" * many,
                "rounds 2 & (" * many + "rounds 2 | rings 1" + ")" * many,
                "rounds 2 | (" * many + "rounds 2 | rings 1" + ")" * many,
            ):
                self.assertEqual(format_question(parse_question(text)), text)
                self.assertEqual(parse_question("(" * many + text + ")" * many), parse_question(text))
                self.assertEqual(parse_question(" " * 3000 + text + " " * 3000), parse_question(text))


class TestWrongTexts(unittest.TestCase):
    def check(self, text, at):
        with self.assertRaises(InvalidQuestion) as caught:
            parse_question(text)
        self.assertEqual((caught.exception.at, type(caught.exception)), (at, InvalidQuestion), text)

    def test_other_words(self):
        for word in ("a", "ring", "ringss", "round", "throug", "throughx", "not", "and", "or", "ringsrounds", "xrings"):
            self.check(word, 0)
            self.check(word + " 1", 0)
            self.check("  " + word + " 1 2", 2)
            self.check("rings 1 & " + word + " 1", 10)
            self.check("rings " + word, 6)
            self.check("through 1 " + word, 10)
            self.check("rings 1 " + word, 8)
            self.check("(" + word, 1)

    def test_leading_zeros(self):
        for digits in ("00", "01", "007", "000000000", "0999999999"):
            self.check("rings " + digits, 6)
            self.check("rounds " + digits + " & ", 7)
            self.check("through " + digits + " 1", 8)
            self.check("through 1 " + digits, 10)
            self.check("~(rings  " + digits + ")", 9)

    def test_more_than_nine_digits(self):
        for digits in ("1000000000", "9999999999", "1" * 40, "1" * 1990):
            self.check("rings " + digits, 6)
            self.check("through " + digits, 8)
            self.check("through 1 " + digits, 10)

    def test_other_characters(self):
        signs = [chr(code) for code in range(ord(" "), ord("~") + 1) if not chr(code).islower()]
        signs = [sign for sign in signs if sign not in " 0123456789~&|()"]
        self.assertEqual(len(signs), 95 - 26 - 10 - 6)
        for sign in signs:
            self.check(sign, 0)
            self.check(" " + sign + " rings 1", 1)
            self.check("rings " + sign, 6)
            self.check("rings " + sign + "1", 6)
            self.check("rings 1" + sign, 7)
            self.check("through 1" + sign + "2", 9)
            self.check("rings 1 & " + sign, 10)
            self.check("ri" + sign + "ngs 1", 0)
            self.check("rings 1 " + sign + "& rings 2", 8)
        self.check("Rings 1", 0)
        self.check("rings 1 AND rings 2", 8)
        self.check("rings -1", 6)
        self.check("rings 1_0", 7)
        self.check("rings +1", 6)

    def test_tokens_that_cannot_stand_where_an_operand_begins(self):
        for token in ("&", "|", ")", "1", "0"):
            self.check(token, 0)
            self.check(token + " rings 1", 0)
            for before in ("~", "(", "rings 1 & ", "rings 1 | ", "~(rings 1) & (", "~~"):
                self.check(before + token, len(before))
                self.check(before + " " + token + " rings 1", len(before) + 1)

    def test_tokens_that_cannot_stand_where_a_number_is_needed(self):
        for token in ("&", "|", ")", "(", "~", "rings", "rounds", "through"):
            for before in ("rings ", "rounds ", "through ", "through 0 ", "(rings ", "rings 1 & ~through 0 "):
                self.check(before + token, len(before))
                self.check(before + " " + token + " 1", len(before) + 1)

    def test_tokens_that_cannot_stand_behind_an_operand(self):
        for token in ("(", "~", "1", "0", "rings", "rounds", "through"):
            for before in ("rings 1 ", "through 0 1 ", "(rings 1) ", "~(rings 1 & (rounds 2)) ", "(rings 1 "):
                self.check(before + token, len(before))
                self.check(before + "  " + token + " 1)", len(before) + 2)

    def test_a_closing_bracket_too_many(self):
        self.check(")", 0)
        self.check("rings 1)", 7)
        self.check("(rings 1))", 9)
        self.check("(rings 1) & rounds 2 )", 21)
        self.check("~(rings 1 | (rounds 2)) ) & (rings 1)", 24)
        self.check("()", 1)

    def test_texts_that_end_too_early(self):
        for text in (
            "", "~", "(", "~~(", "rings", "rounds", "through", "through 0", "rings 1 &", "rings 1 | ~", "(rings 1",
            "((rings 1)", "(rings 1 & rounds 2", "rings 1 & (rounds 2", "(rings 1) | (", "~(rings",
        ):
            for spaces in (0, 1, 2, 30):
                self.check(text + " " * spaces, len(text) + spaces)
        self.check(" " * 2000, 2000)
        self.check("(" * MANY + "rings 1" + ")" * (MANY - 1), MANY * 2 + 6)

    def test_two_bad_tokens(self):
        self.check("rings 01 & @", 6)
        self.check("rings @ 01", 6)
        self.check("rings 1 ) @", 8)
        self.check("rings 1 @ )", 8)
        self.check("& ring", 0)
        self.check("rings 1 1234567890", 8)
        self.check("(rings 1 rings", 9)
        self.check("( 1 @", 2)
        self.check("@" * 2000, 0)

    def test_every_short_row_of_tokens(self):
        tokens = ("~", "&", "|", "(", ")", "rings", "through", "7")
        for length in range(6):
            for row in itertools.product(tokens, repeat=length):
                text = " ".join(row)
                at = first_that_cannot_stand(row)
                if at is None:
                    self.assertEqual(parse_question(format_question(parse_question(text))), parse_question(text))
                else:
                    self.check(text, len(text) if at == length else len(" ".join(row[:at] + ("",))))


def first_that_cannot_stand(row):
    """The place of the first token that no question has there after the tokens before it, or None."""
    brackets, numbers, operand = 0, 0, False
    for at, token in enumerate(row):
        if numbers > 0:
            fits = token == "7"
            numbers -= 1
            operand = numbers == 0
        elif operand:
            fits = token in ("&", "|") or token == ")" and brackets > 0
            brackets -= token == ")"
            operand = token == ")"
        else:
            fits = token in ("~", "(", "rings", "through")
            brackets += token == "("
            numbers = {"rings": 1, "through": 2}.get(token, 0)
        if not fits:
            return at
    return None if operand and brackets == 0 else len(row)


class TestNoEffects(unittest.TestCase):
    def test_no_function_changes_the_question(self):
        question = ~(Question.through(0, 1) | Question.most_rings(2)) & Question.least_rounds(3)
        tree = ("and", ("not", ("or", ("through", 0, 1), ("rings", 2))), ("rounds", 3))
        for _ in range(2):
            self.assertEqual(format_question(question), "~(through 0 1 | rings 2) & rounds 3")
            self.assertEqual(question.tree, tree)

    def test_two_texts_do_not_share_anything(self):
        with self.assertRaises(InvalidQuestion):
            parse_question("~(rings 1 & through 0")
        self.assertEqual(parse_question("rounds 2").tree, S)


if __name__ == "__main__":
    unittest.main()
