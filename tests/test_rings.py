import inspect
import unittest

from slantwalk import rings
from slantwalk.errors import InvalidDirection
from slantwalk.plans import Plan
from slantwalk.rings import rings_at, rings_of
from slantwalk.tables import WalkTable
from slantwalk.walking import rooms_passed, walk_table
from tests.tree import directions_in_order
from tests.walks import HUNDRED, LONG, LONG_DIRECTIONS, NO_DIRECTIONS, PLANS, stride

PLAN = Plan([1, 0, 2], [2, 1, 0])


class TestExamples(unittest.TestCase):
    def test_the_examples_of_the_document(self):
        self.assertEqual(rings_at(PLAN, 0, 1), [(0, 2, (0, 2)), (1, 1, (1,))])
        # The rings of this direction stand in the example of `ring_lists`.
        self.assertEqual([rounds for _, rounds, _ in rings_at(PLAN, 1, 0)], [2, 1])
        self.assertEqual(rings_at(PLAN, 1, 1), [(0, 3, (0, 1, 2))])

    def test_the_interface_is_defined_in_the_file(self):
        for name, wanted in (("rings_of", "(table)"), ("rings_at", "(plan, p, q)")):
            function = getattr(rings, name)
            self.assertEqual(function.__module__, "slantwalk.rings")
            self.assertEqual(str(inspect.signature(function)), wanted)

    def test_no_direction(self):
        for p, q in NO_DIRECTIONS:
            with self.assertRaises(InvalidDirection) as caught:
                rings_at(PLAN, p, q)
            self.assertEqual((caught.exception.p, caught.exception.q), (p, q))


class TestRingsOf(unittest.TestCase):
    def check(self, ends, marks, wanted):
        found = rings_of(WalkTable(ends, marks))
        self.assertEqual(found, wanted)
        self.assertIs(type(found), list)
        for ring in found:
            self.assertEqual([type(part) for part in (ring, *ring)], [tuple, int, int, tuple])

    def test_tables_without_turns(self):
        for size in (1, 2, 3, 100, 101, 200):
            self.check(list(range(size)), [0] * size, [(room, 1, ()) for room in range(size)])
            alone = [2 ** room for room in range(size)]
            self.check(list(range(size)), alone, [(room, 1, (room,)) for room in range(size)])
            every = [2 ** size - 1] * size
            self.check(list(range(size)), every, [(room, 1, tuple(range(size))) for room in range(size)])

    def test_one_ring(self):
        for size in (1, 2, 3, 100, 101, 200):
            ends = [*range(1, size), 0]
            alone = [2 ** room for room in range(size)]
            for way in (ends, [size - 1, *range(size - 1)]):
                self.check(way, [0] * size, [(0, size, ())])
                self.check(way, alone, [(0, size, tuple(range(size)))])
                self.check(way, [2 ** size - 1] + [0] * (size - 1), [(0, size, tuple(range(size)))])
                self.check(way, [0] * (size - 1) + [2 ** (size - 1)], [(0, size, (size - 1,))])

    def test_several_rings(self):
        ends = [4, 3, 2, 5, 0, 1]
        alone = [1, 2, 4, 8, 16, 32]
        self.check(ends, alone, [(0, 2, (0, 4)), (1, 3, (1, 3, 5)), (2, 1, (2,))])
        self.check(ends, [0] * 6, [(0, 2, ()), (1, 3, ()), (2, 1, ())])
        self.check(ends, [63] * 6, [(0, 2, tuple(range(6))), (1, 3, tuple(range(6))), (2, 1, tuple(range(6)))])

    def test_passed_rooms_may_lie_outside_of_the_ring(self):
        # The marks of the rooms of a ring are put together, and no others.
        self.check([4, 3, 2, 5, 0, 1], [2, 0, 0, 36, 40, 1], [(0, 2, (1, 3, 5)), (1, 3, (0, 2, 5)), (2, 1, ())])

    def test_a_ring_of_the_last_rooms(self):
        self.check([0, 1, 4, 2, 3], [0, 0, 16, 1, 2], [(0, 1, ()), (1, 1, ()), (2, 3, (0, 1, 4))])

    def test_many_rooms(self):
        for size, factor, shift in ((100, 37, 11), (101, 5, 3), (200, 77, 9)):
            ends = stride(size, factor, shift)
            marks = [2 ** (s * 13 % size) + 2 ** (s // 7) if s % 3 else 0 for s in range(size)]
            wanted = []
            for start in range(size):
                followed = [start]
                for _ in range(size):
                    followed.append(ends[followed[-1]])
                if min(followed) == start:
                    members = sorted(set(followed))
                    passed = tuple(i for i in range(size) if any(marks[s] >> i & 1 for s in members))
                    wanted.append((start, len(members), passed))
            self.assertGreater(len(wanted), 1)
            self.check(ends, marks, wanted)


class TestRingsAt(unittest.TestCase):
    def test_against_the_rooms_that_are_passed(self):
        for plan in PLANS:
            for p, q in directions_in_order(5):
                self.check_by_walking(plan, p, q)
        self.check_by_walking(HUNDRED, 5, 3)
        self.check_by_walking(HUNDRED, 1, 0)

    def check_by_walking(self, plan, p, q):
        wanted = []
        found_before = set()
        for start in range(plan.size):
            if start not in found_before:
                passed = list(rooms_passed(plan, p, q, start=start))
                found_before.update(passed[::p + q])
                wanted.append((start, len(passed) // (p + q), tuple(sorted(set(passed)))))
        self.assertEqual(rings_at(plan, p, q), wanted)

    def test_the_rings_of_the_table_of_one_round(self):
        for plan in (*PLANS, HUNDRED):
            for p, q in (*directions_in_order(4), *LONG_DIRECTIONS):
                self.assertEqual(rings_at(plan, p, q), rings_of(walk_table(plan, p, q)))

    def test_the_rounds_add_up_to_the_number_of_rooms(self):
        for plan in (*PLANS, HUNDRED):
            for p, q in (*directions_in_order(6), *LONG_DIRECTIONS):
                found = rings_at(plan, p, q)
                self.assertEqual(sum(rounds for _, rounds, _ in found), plan.size)
                starts = [start for start, _, _ in found]
                self.assertEqual(starts, sorted(set(starts)))

    def test_long_directions(self):
        plan = Plan([1, 2, 0, 4, 3], [0, 1, 2, 3, 4])
        # 10 ** 39 is 1 more than a multiple of 3, and even.
        rings_of_plan = [(0, 3, (0, 1, 2)), (3, 1, (3, 4)), (4, 1, (3, 4))]
        self.assertEqual(rings_at(plan, LONG, 1), rings_of_plan)
        self.assertEqual(rings_at(plan.mirrored(), 1, LONG), rings_of_plan)
        rings_of_plan = [(0, 1, (0, 1, 2)), (1, 1, (0, 1, 2)), (2, 1, (0, 1, 2)), (3, 2, (3, 4))]
        self.assertEqual(rings_at(plan, LONG - 1, 1), rings_of_plan)


class TestNoEffects(unittest.TestCase):
    def test_a_returned_list_can_be_changed(self):
        table = WalkTable([4, 3, 2, 5, 0, 1], [1, 2, 4, 8, 16, 32])
        wanted = [(0, 2, (0, 4)), (1, 3, (1, 3, 5)), (2, 1, (2,))]
        found = rings_of(table)
        found[0] = None
        found.pop()
        self.assertEqual(rings_of(table), wanted)
        found = rings_at(PLAN, 0, 1)
        found.clear()
        self.assertEqual(rings_at(PLAN, 0, 1), [(0, 2, (0, 2)), (1, 1, (1,))])

    def test_the_table_and_the_plan_are_as_before(self):
        table = WalkTable([4, 3, 2, 5, 0, 1], [1, 2, 4, 8, 16, 32])
        rings_of(table)
        self.assertEqual(table.form, ((4, 3, 2, 5, 0, 1), (1, 2, 4, 8, 16, 32)))
        for plan in (*PLANS, HUNDRED):
            before = (plan.right, plan.above)
            rings_at(plan, 5, 3)
            with self.assertRaises(InvalidDirection):
                rings_at(plan, 4, 2)
            self.assertEqual((plan.right, plan.above), before)


if __name__ == "__main__":
    unittest.main()
