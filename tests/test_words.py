import inspect
import unittest

from slantwalk.errors import InvalidDirection
from slantwalk.words import CrossingWord
from tests.tree import fibonacci_pair, rows_of_tree

LONG = 10 ** 39
FAR = 123456789012345678901234567890123456789012345678901234567890


def rounds_of_tree(levels):
    """The rounds of the directions, each put together from those of its neighbors."""
    rounds = {(1, 0): "r", (0, 1): "u"}
    for rows in rows_of_tree(levels):
        for direction, (flat, steep), _ in rows:
            rounds[direction] = rounds[flat] + rounds[steep]
    return rounds


ROUNDS = rounds_of_tree(6)


class TestExamples(unittest.TestCase):
    def test_the_examples_of_the_document(self):
        word = CrossingWord(5, 3)
        self.assertEqual(
            (word[0, 8], word[6, 11], word.letter(-1), word.upper_count(11)),
            ("rrurruru", "rurru", "u", 4),
        )

    def test_the_interface_is_defined_in_the_class_itself(self):
        self.assertEqual(CrossingWord.__module__, "slantwalk.words")
        for name in ("round_length", "letter", "__getitem__", "upper_count"):
            self.assertIn(name, CrossingWord.__dict__)
        self.assertEqual(list(inspect.signature(CrossingWord).parameters), ["p", "q"])
        self.assertEqual(list(inspect.signature(CrossingWord.letter).parameters), ["self", "index"])
        self.assertEqual(list(inspect.signature(CrossingWord.upper_count).parameters), ["self", "stop"])

    def test_round_length(self):
        for (p, q), text in ROUNDS.items():
            self.assertEqual(CrossingWord(p, q).round_length, len(text))
        self.assertEqual(CrossingWord(LONG, 1).round_length, LONG + 1)
        with self.assertRaises(AttributeError):
            CrossingWord(5, 3).round_length = 9

    def test_no_direction(self):
        for p, q in ((0, 0), (2, 0), (0, 2), (4, 2), (-1, 1), (1, -1), (LONG * 3, 9)):
            with self.assertRaises(InvalidDirection) as caught:
                CrossingWord(p, q)
            self.assertEqual((caught.exception.p, caught.exception.q), (p, q))


class TestLetters(unittest.TestCase):
    def test_a_round_is_the_round_of_the_flat_neighbor_then_that_of_the_steep_one(self):
        for (p, q), text in ROUNDS.items():
            self.assertEqual(CrossingWord(p, q)[0, p + q], text)
            self.assertEqual((text.count("r"), text.count("u")), (p, q))

    def test_letters_of_small_directions(self):
        for (p, q), text in ROUNDS.items():
            word = CrossingWord(p, q)
            length = len(text)
            for index in list(range(-2 * length - 1, 3 * length)) + [FAR, FAR + 1, -FAR, -FAR - 1, FAR * length - 1]:
                self.assertEqual(word.letter(index), text[index % length])

    def test_letters_of_side_directions(self):
        for index in (0, 1, 5, -1, -7, FAR, -FAR):
            self.assertEqual(CrossingWord(1, 0).letter(index), "r")
            self.assertEqual(CrossingWord(0, 1).letter(index), "u")

    def test_letters_of_long_directions(self):
        # The only u of the flat one ends its round, and the only r of the steep one begins it.
        flat, steep = CrossingWord(LONG, 1), CrossingWord(1, LONG)
        length = LONG + 1
        for start in (0, length, -length, -3 * length, length * 10 ** 21, -length * 10 ** 21):
            self.assertEqual(flat[start - 2, start + 3], "rurrr")
            self.assertEqual(steep[start - 2, start + 3], "uuruu")
            self.assertEqual(flat.letter(start - 1), "u")
            self.assertEqual(steep.letter(start), "r")
            self.assertEqual((flat.letter(start), steep.letter(start - 1)), ("r", "u"))
            self.assertEqual((flat.letter(start + LONG // 2), steep.letter(start + LONG // 2)), ("r", "u"))

    def test_letters_of_fibonacci_directions(self):
        low, high, _ = fibonacci_pair(40)
        for p, q in ((low, high), (high, low)):
            word = CrossingWord(p, q)
            length = p + q
            for index in (0, 1, 2, -1, -2, low, high, length - 1, FAR, FAR + 1, -FAR, -FAR - 7, 10 ** 59, -(10 ** 59)):
                wanted = "u" if index * q % length + q >= length else "r"
                self.assertEqual(word.letter(index), wanted)
                self.assertEqual(word.letter(index + length), wanted)
                self.assertEqual(word.letter(index - FAR * length), wanted)


class TestSlices(unittest.TestCase):
    def test_empty_slices(self):
        for p, q in ((1, 0), (0, 1), (1, 1), (5, 3), (LONG, 1)):
            word = CrossingWord(p, q)
            for start, stop in ((0, 0), (3, 3), (3, 2), (5, -5), (-1, -1), (-2, -3), (FAR, FAR), (FAR, -FAR)):
                self.assertEqual(word[start, stop], "")

    def test_slices_over_several_rounds_and_below_zero(self):
        for (p, q), text in ROUNDS.items():
            word = CrossingWord(p, q)
            length = len(text)
            for start in (-3 * length - 1, -length, -2, -1, 0, 1, length - 1, length, 4 * length + 1):
                for many in (1, 2, length, 3 * length + 2):
                    wanted = "".join(text[index % length] for index in range(start, start + many))
                    self.assertEqual(word[start, start + many], wanted)

    def test_slices_far_away(self):
        word = CrossingWord(5, 3)
        self.assertEqual(word[8 * FAR - 1, 8 * FAR + 9], "urrurrurur")
        self.assertEqual(word[-8 * FAR - 1, -8 * FAR + 9], "urrurrurur")

    def test_five_thousand_letters(self):
        self.assertEqual(CrossingWord(5, 3)[0, 5000], "rrurruru" * 625)
        self.assertEqual(CrossingWord(1, 0)[-2500, 2500], "r" * 5000)
        self.assertEqual(CrossingWord(0, 1)[-FAR, -FAR + 5000], "u" * 5000)
        self.assertEqual(CrossingWord(LONG, 1)[-2500, 2500], "r" * 2499 + "u" + "r" * 2500)


class TestUpperCount(unittest.TestCase):
    def test_against_the_letters(self):
        for (p, q), text in ROUNDS.items():
            word = CrossingWord(p, q)
            for stop in range(3 * len(text) + 2):
                self.assertEqual(word.upper_count(stop), (text * 4)[:stop].count("u"))

    def test_none(self):
        for p, q in ((1, 0), (0, 1), (1, 1), (5, 3), (LONG, 1), (1, LONG)):
            self.assertEqual(CrossingWord(p, q).upper_count(0), 0)

    def test_multiples_of_the_round(self):
        low, high, _ = fibonacci_pair(40)
        for p, q in ((1, 0), (0, 1), (5, 3), (LONG, 1), (1, LONG), (low, high)):
            word = CrossingWord(p, q)
            for rounds in (1, 2, 10 ** 12, 10 ** 39):
                self.assertEqual(word.upper_count(rounds * (p + q)), rounds * q)

    def test_a_stop_of_eighty_digits(self):
        stop = 8 * (10 ** 79 + 1)
        word = CrossingWord(5, 3)
        self.assertEqual(word.upper_count(stop), 3 * (10 ** 79 + 1))
        self.assertEqual(word.upper_count(stop + 3), 3 * (10 ** 79 + 1) + 1)
        self.assertEqual(CrossingWord(1, 0).upper_count(stop), 0)
        self.assertEqual(CrossingWord(0, 1).upper_count(stop), stop)
        stop = (LONG + 1) * 10 ** 39
        self.assertEqual(CrossingWord(LONG, 1).upper_count(stop - 1), 10 ** 39 - 1)
        self.assertEqual(CrossingWord(LONG, 1).upper_count(stop), 10 ** 39)
        self.assertEqual(CrossingWord(1, LONG).upper_count(stop + 1), LONG * 10 ** 39)
        self.assertEqual(CrossingWord(1, LONG).upper_count(stop + 2), LONG * 10 ** 39 + 1)


class TestNoEffects(unittest.TestCase):
    def test_no_method_changes_the_word(self):
        word = CrossingWord(5, 3)
        for call in (lambda: word.letter(4), lambda: word.letter(-FAR), lambda: word[2, 40], lambda: word[4, 1],
                     lambda: word.upper_count(10 ** 79), lambda: word.round_length):
            call()
            self.assertEqual((word.round_length, word[0, 8], word.upper_count(11)), (8, "rrurruru", 4))


if __name__ == "__main__":
    unittest.main()
