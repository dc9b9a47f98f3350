import inspect
import itertools
import unittest

from slantwalk import walking
from slantwalk.errors import InvalidDirection, InvalidRoom, NotInTree
from slantwalk.plans import Plan
from slantwalk.tables import WalkTable
from slantwalk.walking import pair_at, rooms_passed, side_tables, walk_table
from slantwalk.words import CrossingWord
from tests.tree import directions_in_order, rows_of_tree
from tests.walks import (
    HUNDRED, LONG, LONG_DIRECTIONS, NO_DIRECTIONS, PLANS, form_of_crossings, form_of_walks, joined, letters_of, walk,
)

PLAN = Plan([1, 0, 2], [2, 1, 0])
SMALL = directions_in_order(4)


def sides(plan):
    return (plan.right, plan.above)


class TestExamples(unittest.TestCase):
    def test_the_examples_of_the_document(self):
        self.assertEqual(walk_table(PLAN, 1, 1, crossings=3).form, ((0, 2, 1), (3, 7, 5)))
        self.assertEqual(list(rooms_passed(PLAN, 1, 1)), [0, 1, 1, 0, 2, 2])

    def test_the_interface_is_defined_in_the_file(self):
        parameters = {
            "side_tables": "(plan)", "pair_at": "(plan, p, q)", "walk_table": "(plan, p, q, *, crossings=None)",
            "rooms_passed": "(plan, p, q, *, start=0, crossings=None)",
        }
        for name, wanted in parameters.items():
            function = getattr(walking, name)
            self.assertEqual(function.__module__, "slantwalk.walking")
            self.assertEqual(str(inspect.signature(function)), wanted)


class TestWrongInputs(unittest.TestCase):
    def assert_invalid(self, p, q, call, kind=InvalidDirection):
        with self.assertRaises(InvalidDirection) as caught:
            call()
        self.assertIs(type(caught.exception), kind)
        self.assertEqual((caught.exception.p, caught.exception.q), (p, q))

    def test_no_direction(self):
        for p, q in NO_DIRECTIONS:
            for plan in (PLAN, HUNDRED):
                self.assert_invalid(p, q, lambda: pair_at(plan, p, q))
                for crossings in (None, 0, 1, 10 ** 79):
                    self.assert_invalid(p, q, lambda: walk_table(plan, p, q, crossings=crossings))
                    self.assert_invalid(p, q, lambda: next(rooms_passed(plan, p, q, crossings=crossings), None))

    def test_no_direction_and_no_room(self):
        for p, q in NO_DIRECTIONS:
            for start in (-1, 3, LONG):
                for crossings in (None, 0, 1):
                    walked = lambda: list(rooms_passed(PLAN, p, q, start=start, crossings=crossings))
                    self.assert_invalid(p, q, walked)

    def test_no_room(self):
        for plan in (PLANS[0], PLAN, HUNDRED):
            for start in (-1, -plan.size, plan.size, plan.size + 1, LONG, -LONG):
                for p, q in ((1, 0), (0, 1), (1, 1), (5, 3), (LONG, 1)):
                    for crossings in (None, 0, 1, 10 ** 79):
                        with self.assertRaises(InvalidRoom) as caught:
                            next(rooms_passed(plan, p, q, start=start, crossings=crossings), None)
                        self.assertEqual(caught.exception.room, start)

    def test_side_directions_have_no_pair(self):
        for p, q in ((1, 0), (0, 1)):
            self.assert_invalid(p, q, lambda: pair_at(PLAN, p, q), NotInTree)
            self.assertIsInstance(walk_table(PLAN, p, q), WalkTable)
            self.assertEqual(next(rooms_passed(PLAN, p, q)), 0)
        for p, q in ((1, 1), (2, 1), (1, 2), (LONG, 1)):
            self.assertEqual(len(pair_at(PLAN, p, q)), 2)


class TestRoomsPassed(unittest.TestCase):
    def test_numbers_of_crossings(self):
        for plan in PLANS:
            for p, q in SMALL:
                length = p + q
                for many in (0, 1, 2, length - 1, length, length + 1, 3 * length, 3 * length + 2):
                    for start in range(plan.size):
                        wanted, _ = walk(plan, start, letters_of(p, q, many))
                        self.assertEqual(len(wanted), many)
                        self.assertEqual(list(rooms_passed(plan, p, q, start=start, crossings=many)), wanted)

    def test_the_whole_closed_walk(self):
        for plan in PLANS:
            for p, q in SMALL:
                letters = letters_of(p, q, p + q)
                for start in range(plan.size):
                    wanted, room = walk(plan, start, letters)
                    while room != start:
                        passed, room = walk(plan, room, letters)
                        wanted.extend(passed)
                    self.assertEqual(list(rooms_passed(plan, p, q, start=start)), wanted)
                    self.assertEqual(list(rooms_passed(plan, p, q, start=start, crossings=None)), wanted)

    def test_rooms_that_lie_behind_their_own_sides(self):
        plan = Plan([0, 2, 1], [0, 1, 2])
        self.assertEqual(list(rooms_passed(plan, 5, 3)), [0] * 8)
        self.assertEqual(list(rooms_passed(plan, 0, 1, start=2)), [2])
        self.assertEqual(list(rooms_passed(plan, 2, 1, start=1)), [1, 2, 1])
        self.assertEqual(list(rooms_passed(plan, 1, 2, start=1)), [1, 2, 2, 2, 1, 1])

    def test_a_return_before_the_end_of_a_round_does_not_close_the_walk(self):
        plan = Plan([1, 0], [1, 0])
        self.assertEqual(list(rooms_passed(plan, 2, 1)), [0, 1, 0, 1, 0, 1])
        self.assertEqual(list(rooms_passed(plan, 1, 3)), [0, 1, 0, 1])

    def test_start_alone_and_crossings_alone(self):
        self.assertEqual(list(rooms_passed(PLAN, 1, 1, start=2)), [2, 2, 0, 1, 1, 0])
        self.assertEqual(list(rooms_passed(PLAN, 1, 1, crossings=4)), [0, 1, 1, 0])
        self.assertEqual(list(rooms_passed(PLAN, 1, 1, start=1, crossings=1)), [1])
        self.assertEqual(list(rooms_passed(PLAN, 1, 1, start=1, crossings=0)), [])

    def test_one_room_and_a_hundred_rooms(self):
        self.assertEqual(list(rooms_passed(PLANS[0], 5, 3)), [0] * 8)
        self.assertEqual(list(rooms_passed(PLANS[0], 1, 0, crossings=250)), [0] * 250)
        for start in (0, 1, 57, 99):
            wanted, _ = walk(HUNDRED, start, letters_of(5, 3, 2500))
            self.assertEqual(list(rooms_passed(HUNDRED, 5, 3, start=start, crossings=2500)), wanted)
            down = [(start - k) % 100 for k in range(100)]
            self.assertEqual(list(rooms_passed(HUNDRED, 0, 1, start=start)), down)

    def test_it_is_a_generator(self):
        self.assertTrue(inspect.isgenerator(rooms_passed(PLAN, 1, 1)))
        for crossings in (None, 10 ** 79):
            for p, q in LONG_DIRECTIONS:
                found = rooms_passed(HUNDRED, p, q, start=3, crossings=crossings)
                self.assertTrue(inspect.isgenerator(found))
                wanted, _ = walk(HUNDRED, 3, letters_of(p, q, 300))
                self.assertEqual(list(itertools.islice(found, 300)), wanted)


class TestTables(unittest.TestCase):
    def test_side_tables(self):
        for plan in (*PLANS, HUNDRED):
            found = side_tables(plan)
            self.assertIs(type(found), tuple)
            right, above = found
            alone = tuple(2 ** room for room in range(plan.size))
            self.assertIsInstance(right, WalkTable)
            self.assertIsInstance(above, WalkTable)
            self.assertEqual((right.form, above.form), ((plan.right, alone), (plan.above, alone)))

    def test_against_walks_side_by_side(self):
        for plan in PLANS:
            for p, q in SMALL:
                for many in range(3 * (p + q) + 2):
                    wanted = form_of_walks(plan, letters_of(p, q, many))
                    self.assertEqual(walk_table(plan, p, q, crossings=many).form, wanted)

    def test_one_round(self):
        for plan in (*PLANS, HUNDRED):
            for p, q in directions_in_order(6):
                wanted = form_of_walks(plan, letters_of(p, q, p + q))
                self.assertEqual(walk_table(plan, p, q).form, wanted)
                self.assertEqual(walk_table(plan, p, q, crossings=None).form, wanted)
                self.assertEqual(walk_table(plan, p, q, crossings=p + q).form, wanted)

    def test_no_crossings(self):
        for plan in (*PLANS, HUNDRED):
            for p, q in ((1, 0), (0, 1), (1, 1), (5, 3), *LONG_DIRECTIONS):
                found = walk_table(plan, p, q, crossings=0)
                self.assertEqual(found.form, WalkTable.resting(plan.size).form)

    def test_side_directions_with_long_numbers_of_crossings(self):
        for count in (10 ** 39, 10 ** 79 + 1, 10 ** 80 - 1):
            for plan in (*PLANS, HUNDRED):
                right, above = side_tables(plan)
                self.assertEqual(walk_table(plan, 1, 0, crossings=count).form, right.repeated(count).form)
                self.assertEqual(walk_table(plan, 0, 1, crossings=count).form, above.repeated(count).form)


class TestLongNumbers(unittest.TestCase):
    def test_small_directions_and_long_numbers_of_crossings(self):
        for plan in PLANS:
            for p, q in SMALL:
                for count in (10 ** 39 + 1, 10 ** 79, 10 ** 80 - 1):
                    rounds, rest = divmod(count, p + q)
                    wanted = (walk_table(plan, p, q) ** rounds).form
                    wanted = joined(wanted, form_of_walks(plan, letters_of(p, q, rest)))
                    self.assertEqual(walk_table(plan, p, q, crossings=count).form, wanted)

    def test_long_directions_and_small_numbers_of_crossings(self):
        for p, q in LONG_DIRECTIONS:
            for plan in (PLANS[4], HUNDRED):
                for many in (1, 2, 3, 10, 99):
                    wanted = form_of_walks(plan, letters_of(p, q, many))
                    self.assertEqual(walk_table(plan, p, q, crossings=many).form, wanted)

    def test_against_another_way_of_joining(self):
        for p, q in LONG_DIRECTIONS:
            length = p + q
            for plan in (PLANS[4], PLANS[5]):
                for count in (length - 1, length, length + 1, length // 2, length // 7 * 5, 10 ** 39, 10 ** 59 + 7,
                              10 ** 79, 10 ** 80 - 1, length * 10 ** 39 - 1):
                    wanted = form_of_crossings(plan, p, q, count)
                    self.assertEqual(walk_table(plan, p, q, crossings=count).form, wanted)
            self.assertEqual(walk_table(HUNDRED, p, q).form, form_of_crossings(HUNDRED, p, q, length))

    def test_one_crossing_more(self):
        for p, q in LONG_DIRECTIONS:
            word = CrossingWord(p, q)
            length = p + q
            plan = PLANS[5]
            for count in (length - 2, length - 1, length, length // 3, 10 ** 39 - 1, 10 ** 79, 3 * 10 ** 79 + 7):
                letter = form_of_walks(plan, word.letter(count))
                found = walk_table(plan, p, q, crossings=count + 1)
                self.assertEqual(found.form, joined(walk_table(plan, p, q, crossings=count).form, letter))

    def test_one_round_more(self):
        for p, q in LONG_DIRECTIONS:
            one = walk_table(HUNDRED, p, q).form
            for count in (0, 1, 12345, 10 ** 39 - 1, 10 ** 79):
                found = walk_table(HUNDRED, p, q, crossings=count + p + q)
                self.assertEqual(found.form, joined(one, walk_table(HUNDRED, p, q, crossings=count).form))

    def test_a_long_run_that_can_be_written_down(self):
        for plan in (PLANS[4], HUNDRED):
            right, above = side_tables(plan)
            self.assertEqual(walk_table(plan, LONG, 1).form, (right ** LONG * above).form)
            self.assertEqual(walk_table(plan, 1, LONG).form, (right * above ** LONG).form)
            self.assertEqual(walk_table(plan, LONG, 1, crossings=LONG).form, (right ** LONG).form)
            found = walk_table(plan, 1, LONG, crossings=LONG + 3)
            self.assertEqual(found.form, (right * above ** LONG * right * above).form)


class TestPairs(unittest.TestCase):
    def test_the_top(self):
        for plan in (*PLANS, HUNDRED):
            found = pair_at(plan, 1, 1)
            self.assertIs(type(found), tuple)
            self.assertEqual([table.form for table in found], [table.form for table in side_tables(plan)])

    def test_small_directions(self):
        for plan in PLANS:
            for rows in rows_of_tree(5):
                for (p, q), ((a, b), (c, d)), _ in rows:
                    flat, steep = pair_at(plan, p, q)
                    self.assertIsInstance(flat, WalkTable)
                    self.assertIsInstance(steep, WalkTable)
                    self.assertEqual(flat.form, form_of_walks(plan, letters_of(a, b, a + b)))
                    self.assertEqual(steep.form, form_of_walks(plan, letters_of(c, d, c + d)))

    def test_the_join_is_one_round(self):
        for plan in (PLANS[4], HUNDRED):
            for p, q in (*SMALL[2:], *LONG_DIRECTIONS):
                flat, steep = pair_at(plan, p, q)
                self.assertEqual((flat * steep).form, walk_table(plan, p, q).form)

    def test_the_children(self):
        for rows in rows_of_tree(4):
            for (p, q), ((a, b), (c, d)), _ in rows:
                self.check_children(p, q, (p + a, q + b), (p + c, q + d))
        # One run of LONG - 2 steps leads to these.
        self.check_children(LONG - 1, 1, (LONG, 1), (2 * LONG - 3, 2))
        self.check_children(1, LONG - 1, (2, 2 * LONG - 3), (1, LONG))
        self.check_children(LONG - 1, LONG - 2, (2 * LONG - 3, 2 * LONG - 5), (LONG, LONG - 1))

    def check_children(self, p, q, flat_child, steep_child):
        for plan in (PLANS[4], PLANS[5], HUNDRED):
            flat, steep = pair_at(plan, p, q)
            both = flat * steep
            found = [table.form for table in pair_at(plan, *flat_child)]
            self.assertEqual(found, [flat.form, both.form])
            found = [table.form for table in pair_at(plan, *steep_child)]
            self.assertEqual(found, [both.form, steep.form])


class TestNoEffects(unittest.TestCase):
    def test_no_function_changes_the_plan(self):
        for plan in (*PLANS, HUNDRED):
            before = sides(plan)
            calls = (
                lambda: side_tables(plan), lambda: pair_at(plan, 5, 3), lambda: walk_table(plan, 5, 3),
                lambda: walk_table(plan, 5, 3, crossings=10 ** 79), lambda: list(rooms_passed(plan, 5, 3)),
                lambda: list(rooms_passed(plan, 0, 1, start=plan.size - 1, crossings=7)),
            )
            for call in calls:
                call()
                self.assertEqual(sides(plan), before)
            for call in (lambda: pair_at(plan, 1, 0), lambda: walk_table(plan, 2, 2),
                         lambda: list(rooms_passed(plan, 1, 1, start=-1))):
                with self.assertRaises(ValueError):
                    call()
                self.assertEqual(sides(plan), before)

    def test_lists_that_are_changed_later_have_no_effect(self):
        right, above = [1, 2, 0], [0, 2, 1]
        plan = Plan(right, above)
        found = rooms_passed(plan, 1, 0)
        table = walk_table(plan, 1, 0)
        self.assertEqual(next(found), 0)
        right.reverse()
        above.clear()
        self.assertEqual(list(found), [1, 2])
        self.assertEqual(table.ends, (1, 2, 0))
        self.assertEqual(walk_table(plan, 1, 0).ends, (1, 2, 0))


if __name__ == "__main__":
    unittest.main()
