import inspect
import itertools
import unittest

from slantwalk import directions
from slantwalk.directions import comes_before, direction_of, first_directions, level, neighbors, steps
from slantwalk.errors import InvalidDirection, NotInTree
from slantwalk.words import CrossingWord
from tests.tree import directions_in_order, fibonacci_pair, rows_of_tree

LONG = 10 ** 39
FACTOR = 1234567890123456789
NO_DIRECTIONS = (
    (0, 0), (2, 0), (0, 2), (4, 2), (2, 4), (6, 3), (-1, 1), (1, -1), (-1, -1), (-1, 0), (0, -1), (-3, 2), (7, -3),
    (LONG * 7, 7), (7, LONG * 7), (LONG - 1, (LONG - 1) * 3), (LONG, 0), (0, LONG), (-LONG, 1),
    ((10 ** 20 + 1) * FACTOR, (10 ** 20 + 2) * FACTOR), (LONG, LONG),
)


def runs_of(kinds):
    return [(kind, len(list(run))) for kind, run in itertools.groupby(kinds)]


class TestWrongDirections(unittest.TestCase):
    def assert_invalid(self, p, q, call):
        with self.assertRaises(InvalidDirection) as caught:
            call()
        self.assertIs(type(caught.exception), InvalidDirection)
        self.assertEqual((caught.exception.p, caught.exception.q), (p, q))

    def test_invalid_direction(self):
        for p, q in NO_DIRECTIONS:
            self.assert_invalid(p, q, lambda: level(p, q))
            self.assert_invalid(p, q, lambda: steps(p, q))
            self.assert_invalid(p, q, lambda: neighbors(p, q))
            self.assert_invalid(p, q, lambda: comes_before((p, q), (1, 1)))
            self.assert_invalid(p, q, lambda: comes_before((1, 1), (p, q)))
            self.assert_invalid(p, q, lambda: CrossingWord(p, q))

    def test_the_error_is_that_of_the_first_argument(self):
        self.assert_invalid(4, 2, lambda: comes_before((4, 2), (0, 0)))
        self.assert_invalid(0, 0, lambda: comes_before((0, 0), (4, 2)))
        self.assert_invalid(-1, 1, lambda: comes_before((-1, 1), (LONG, LONG)))

    def test_side_directions_are_not_in_the_tree(self):
        for p, q in ((1, 0), (0, 1)):
            for call in (steps, neighbors):
                with self.assertRaises(NotInTree) as caught:
                    call(p, q)
                self.assertEqual((caught.exception.p, caught.exception.q), (p, q))

    def test_side_directions_are_directions(self):
        self.assertEqual((level(1, 0), level(0, 1)), (0, 0))
        self.assertIs(comes_before((1, 0), (0, 1)), True)
        self.assertEqual((CrossingWord(1, 0)[0, 3], CrossingWord(0, 1)[0, 3]), ("rrr", "uuu"))


class TestExamples(unittest.TestCase):
    def test_the_examples_of_the_document(self):
        self.assertEqual(
            (steps(5, 3), level(5, 3), neighbors(5, 3)),
            ([("flat", 1), ("steep", 1), ("flat", 1)], 4, ((2, 1), (3, 2))),
        )
        self.assertEqual(direction_of([("flat", 2), ("steep", 0), ("flat", 1)]), (4, 1))
        self.assertEqual(
            list(first_directions(9)),
            [(1, 0), (0, 1), (1, 1), (2, 1), (1, 2), (3, 1), (3, 2), (2, 3), (1, 3)],
        )

    def test_the_interface_is_defined_in_the_file(self):
        parameters = {
            "level": ["p", "q"], "steps": ["p", "q"], "direction_of": ["runs"], "neighbors": ["p", "q"],
            "comes_before": ["one", "two"], "first_directions": ["count"],
        }
        for name, wanted in parameters.items():
            function = getattr(directions, name)
            self.assertEqual(function.__module__, "slantwalk.directions")
            self.assertEqual(list(inspect.signature(function).parameters), wanted)


class TestTree(unittest.TestCase):
    def test_against_a_walk_through_the_tree(self):
        for depth, rows in enumerate(rows_of_tree(10), start=1):
            for (p, q), both, kinds in rows:
                self.assertEqual(level(p, q), depth)
                self.assertEqual(neighbors(p, q), both)
                self.assertEqual(steps(p, q), runs_of(kinds))
                self.assertEqual(direction_of(runs_of(kinds)), (p, q))
                self.assertEqual(direction_of([(kind, 1) for kind in kinds]), (p, q))

    def test_kinds_of_the_values(self):
        runs = steps(5, 3)
        self.assertIs(type(runs), list)
        self.assertEqual([type(run) for run in runs], [tuple, tuple, tuple])
        both = neighbors(5, 3)
        self.assertEqual((type(both), type(both[0]), type(both[1])), (tuple, tuple, tuple))
        self.assertIs(type(direction_of([])), tuple)
        self.assertIs(type(comes_before((1, 0), (0, 1))), bool)

    def test_the_top(self):
        self.assertEqual((steps(1, 1), level(1, 1), neighbors(1, 1)), ([], 1, ((1, 0), (0, 1))))
        self.assertEqual(direction_of([]), (1, 1))

    def test_many_directions_have_steps_in_normal_form(self):
        for p in range(1, 40):
            for q in range(1, 40):
                try:
                    runs = steps(p, q)
                except InvalidDirection:
                    continue
                self.assertTrue(all(count >= 1 for _, count in runs))
                self.assertTrue(all(one[0] != two[0] for one, two in zip(runs, runs[1:])))
                self.assertEqual(direction_of(runs), (p, q))
                self.assertEqual(level(p, q), 1 + sum(count for _, count in runs))
                (a, b), (c, d) = neighbors(p, q)
                self.assertEqual((a + c, b + d, a * d - b * c), (p, q, 1))

    def test_a_returned_list_can_be_changed(self):
        runs = steps(5, 3)
        runs.clear()
        self.assertEqual(steps(5, 3), [("flat", 1), ("steep", 1), ("flat", 1)])


class TestLongNumbers(unittest.TestCase):
    def test_long_runs(self):
        self.assertEqual(steps(LONG, 1), [("flat", LONG - 1)])
        self.assertEqual(steps(1, LONG), [("steep", LONG - 1)])
        self.assertEqual((level(LONG, 1), level(1, LONG)), (LONG, LONG))
        self.assertEqual(neighbors(LONG, 1), ((1, 0), (LONG - 1, 1)))
        self.assertEqual(neighbors(1, LONG), ((1, LONG - 1), (0, 1)))

    def test_two_long_runs(self):
        self.assertEqual(steps(LONG, LONG - 1), [("flat", 1), ("steep", LONG - 2)])
        self.assertEqual(level(LONG, LONG - 1), LONG)
        self.assertEqual(neighbors(LONG, LONG - 1), ((LONG - 1, LONG - 2), (1, 1)))
        self.assertEqual(direction_of([("flat", 1), ("steep", LONG - 2)]), (LONG, LONG - 1))

    def test_neighboring_fibonacci_numbers(self):
        low, high, index = fibonacci_pair(40)
        self.assertEqual((len(str(low)), len(str(high))), (40, 40))
        for p, q, kinds in ((high, low, ("flat", "steep")), (low, high, ("steep", "flat"))):
            runs = [(kinds[k % 2], 1) for k in range(index - 1)]
            self.assertEqual(steps(p, q), runs)
            self.assertEqual(level(p, q), index)
            self.assertEqual(direction_of(runs), (p, q))
            (a, b), (c, d) = neighbors(p, q)
            self.assertEqual((a + c, b + d, a * d - b * c), (p, q, 1))

    def test_order_of_long_directions(self):
        self.assertIs(comes_before((LONG, 1), (LONG, LONG - 1)), True)
        self.assertIs(comes_before((LONG, LONG - 1), (LONG, 1)), False)
        self.assertIs(comes_before((LONG, 1), (1, LONG)), True)
        self.assertIs(comes_before((1, LONG), (LONG, 1)), False)
        self.assertIs(comes_before((LONG, 1), (LONG + 1, 1)), True)
        self.assertIs(comes_before((1, LONG + 1), (LONG, 1)), False)
        self.assertIs(comes_before((LONG, 1), (LONG, 1)), False)
        low, high, _ = fibonacci_pair(40)
        self.assertIs(comes_before((low, high), (LONG, 1)), True)
        self.assertIs(comes_before((high, low), (low, high)), True)
        self.assertIs(comes_before((low, high), (high, low)), False)

    def test_order_of_long_directions_on_the_same_level(self):
        low, high, _ = fibonacci_pair(39)
        for p, q in ((high, low), (low, high), (LONG - 1, 1), (9 * LONG + 1, 7 * LONG + 1)):
            (a, b), (c, d) = neighbors(p, q)
            flat_child, steep_child = (p + a, q + b), (p + c, q + d)
            self.assertEqual(level(*flat_child), level(*steep_child))
            self.assertIs(comes_before(flat_child, steep_child), True)
            self.assertIs(comes_before(steep_child, flat_child), False)
            self.assertIs(comes_before((p, q), flat_child), True)
            self.assertIs(comes_before(flat_child, (p, q)), False)


class TestDirectionOf(unittest.TestCase):
    def test_counts_of_zero(self):
        for runs in ([("flat", 0)], [("steep", 0)], [("flat", 0), ("steep", 0), ("flat", 0)]):
            self.assertEqual(direction_of(runs), (1, 1))
        self.assertEqual(direction_of([("flat", 0), ("steep", 3), ("flat", 0)]), (1, 4))

    def test_the_same_kind_several_times_in_a_row(self):
        runs = [("flat", 1), ("flat", 2), ("flat", 0), ("flat", 3), ("steep", 1), ("steep", 1)]
        self.assertEqual(direction_of(runs), direction_of([("flat", 6), ("steep", 2)]))
        self.assertEqual(steps(*direction_of(runs)), [("flat", 6), ("steep", 2)])

    def test_long_counts(self):
        count = 10 ** 40 - 1
        self.assertEqual(direction_of([("flat", count)]), (10 ** 40, 1))
        self.assertEqual(direction_of([("steep", count)]), (1, 10 ** 40))
        # Below count + 1 : 1, with the neighbors 1:0 and count : 1.
        self.assertEqual(direction_of([("flat", count), ("steep", 1)]), (2 * count + 1, 2))
        self.assertEqual(direction_of([("steep", count), ("flat", 1)]), (2, 2 * count + 1))

    def test_a_hundred_runs(self):
        runs = [("flat", 1), ("steep", 1)] * 50
        p, q = 1, 1
        for _ in range(50):
            # Prepending the steps of 2:1 and then 1:2 to a direction.
            p, q = 2 * p + q, p + q
        self.assertEqual(direction_of(runs), (p, q))
        self.assertEqual(steps(*direction_of(runs)), runs)

    def test_a_hundred_runs_with_long_counts(self):
        runs = [("steep", 10 ** 40 - 1 - k) if k % 2 else ("flat", 10 ** 40 - 1 - k) for k in range(100)]
        p, q = direction_of(runs)
        self.assertGreater(p, 10 ** 3990)
        self.assertEqual(steps(p, q), runs)

    def test_the_list_of_runs_is_not_changed(self):
        runs = [("flat", 2), ("steep", 0), ("flat", 1)]
        direction_of(runs)
        self.assertEqual(runs, [("flat", 2), ("steep", 0), ("flat", 1)])


class TestOrder(unittest.TestCase):
    def test_comes_before_against_the_tree(self):
        ordered = directions_in_order(6)
        for at, one in enumerate(ordered):
            for other_at, two in enumerate(ordered):
                self.assertIs(comes_before(one, two), at < other_at)

    def test_a_direction_and_itself(self):
        for one in ((1, 0), (0, 1), (1, 1), (5, 3), (LONG, LONG - 1)):
            self.assertIs(comes_before(one, one), False)

    def test_the_pairs_are_not_changed(self):
        one, two = [1, 2], [3, 2]
        comes_before(one, two)
        self.assertEqual((one, two), ([1, 2], [3, 2]))

    def test_first_directions(self):
        ordered = directions_in_order(9)
        for count in (0, 1, 2, 3, 4, 9, 300):
            found = list(first_directions(count))
            self.assertEqual(found, ordered[:count])
            self.assertTrue(all(type(direction) is tuple for direction in found))

    def test_first_directions_is_a_generator(self):
        self.assertTrue(inspect.isgenerator(first_directions(3)))
        self.assertEqual(list(itertools.islice(first_directions(10 ** 40), 4)), [(1, 0), (0, 1), (1, 1), (2, 1)])


if __name__ == "__main__":
    unittest.main()
