import inspect
import unittest

from slantwalk.errors import InvalidPlan, InvalidRoom
from slantwalk.plans import Plan

TWENTY_DIGITS = 12345678901234567890


def sides(plan):
    return (plan.right, plan.above)


def cycle(size):
    return [(room + 1) % size for room in range(size)]


def backwards(size):
    return list(range(size))[::-1]


PLANS = (
    Plan([0], [0]),
    Plan([1, 0], [0, 1]),
    Plan([1, 0, 2], [2, 1, 0]),
    Plan([1, 2, 0, 4, 3, 5], [3, 1, 5, 0, 4, 2]),
    Plan(cycle(99), backwards(99)),
    Plan(backwards(100), cycle(100)),
)


class TestPlan(unittest.TestCase):
    def test_plans_of_many_sizes_from_lists_and_tuples(self):
        for size in (1, 2, 99, 100):
            right, above = cycle(size), backwards(size)
            for plan in (Plan(right, above), Plan(tuple(right), tuple(above)), Plan(right, tuple(above))):
                self.assertEqual(plan.size, size)
                self.assertEqual(plan.right, tuple(right))
                self.assertEqual(plan.above, tuple(above))
                self.assertIs(type(plan.right), tuple)
                self.assertIs(type(plan.above), tuple)

    def test_most_rooms(self):
        self.assertEqual(Plan.MOST_ROOMS, 100)

    def test_too_few_and_too_many_rooms(self):
        for right, above in (
            ([], []), ((), ()), ([], [0]), ([0], []),
            (cycle(101), cycle(101)), (tuple(cycle(101)), cycle(101)), (cycle(200), cycle(200)),
        ):
            with self.assertRaises(InvalidPlan):
                Plan(right, above)

    def test_lists_of_different_length(self):
        for right, above in (([0], [0, 1]), ([1, 0], [0]), ([0, 1, 2], [0, 1]), (cycle(100), cycle(101))):
            with self.assertRaises(InvalidPlan):
                Plan(right, above)

    def test_lists_that_do_not_contain_each_room_once(self):
        good = [2, 0, 1]
        for bad in (
            [0, 0, 1], [2, 2, 2], [0, 1, 1], [-1, 0, 1], [0, 1, 3], [1, 2, 3], [0, -1, -2], [-3, 1, 2],
            [0, 1, TWENTY_DIGITS], [0, 1, -TWENTY_DIGITS], [TWENTY_DIGITS] * 3,
        ):
            for right, above in ((bad, good), (good, bad), (bad, bad), (tuple(good), tuple(bad))):
                with self.assertRaises(InvalidPlan):
                    Plan(right, above)

    def test_behind(self):
        for plan in PLANS:
            for room in range(plan.size):
                self.assertEqual(plan.behind(room, "r"), plan.right[room])
                self.assertEqual(plan.behind(room, "u"), plan.above[room])

    def test_behind_a_room_that_is_not_there(self):
        for plan in PLANS:
            size = plan.size
            for room in (-1, -size, -size - 1, size, size + 1, TWENTY_DIGITS, -TWENTY_DIGITS, 10 ** 6000):
                for letter in ("r", "u"):
                    with self.assertRaises(InvalidRoom) as caught:
                        plan.behind(room, letter)
                    self.assertEqual(caught.exception.room, room)

    def test_properties_cannot_be_assigned(self):
        plan = Plan([1, 0], [0, 1])
        for name in ("size", "right", "above"):
            with self.assertRaises(AttributeError):
                setattr(plan, name, (0, 1))
        self.assertEqual((plan.size, plan.right, plan.above), (2, (1, 0), (0, 1)))

    def test_the_interface_is_defined_in_the_class_itself(self):
        self.assertEqual(Plan.__module__, "slantwalk.plans")
        for name in ("size", "right", "above", "behind", "turned", "mirrored", "renumbered", "__add__", "__eq__",
                     "halls", "MOST_ROOMS"):
            self.assertIn(name, Plan.__dict__)
        self.assertEqual(list(inspect.signature(Plan).parameters), ["right", "above"])
        self.assertEqual(list(inspect.signature(Plan.behind).parameters), ["self", "room", "letter"])
        self.assertEqual(list(inspect.signature(Plan.renumbered).parameters), ["self", "order"])


class TestNoEffects(unittest.TestCase):
    def test_lists_that_are_changed_later_have_no_effect(self):
        right, above = [1, 2, 0], [0, 2, 1]
        plan = Plan(right, above)
        right[0] = 5
        above.append(7)
        self.assertEqual(sides(plan), ((1, 2, 0), (0, 2, 1)))
        self.assertEqual(plan.size, 3)
        order = [2, 0, 1]
        renumbered = plan.renumbered(order)
        before = sides(renumbered)
        order.clear()
        self.assertEqual(sides(renumbered), before)

    def test_lists_that_are_passed_are_not_changed(self):
        right, above = [1, 2, 0], [0, 2, 1]
        plan = Plan(right, above)
        order = [2, 0, 1]
        plan.renumbered(order)
        self.assertEqual((right, above, order), ([1, 2, 0], [0, 2, 1], [2, 0, 1]))
        bad = [2, 1, 1]
        with self.assertRaises(InvalidPlan):
            plan.renumbered(bad)
        with self.assertRaises(InvalidPlan):
            Plan(right, bad)
        self.assertEqual((right, bad), ([1, 2, 0], [2, 1, 1]))

    def test_no_method_changes_the_plan(self):
        for plan in PLANS[:4]:
            other = Plan([1, 0], [1, 0])
            before, before_other = sides(plan), sides(other)
            calls = (
                plan.turned, plan.mirrored, plan.halls, lambda: plan + other, lambda: other + plan,
                lambda: plan + plan, lambda: plan == other, lambda: plan.behind(0, "r"), lambda: plan.behind(0, "u"),
                lambda: plan.renumbered(backwards(plan.size)),
            )
            for call in calls:
                call()
                self.assertEqual(sides(plan), before)
                self.assertEqual(sides(other), before_other)
            for call in (lambda: plan.behind(-1, "r"), lambda: plan.renumbered([]),
                         lambda: plan + Plan(cycle(100), cycle(100))):
                with self.assertRaises(ValueError):
                    call()
                self.assertEqual(sides(plan), before)

    def test_a_returned_list_can_be_changed(self):
        plan = Plan([1, 0, 2], [0, 1, 2])
        halls = plan.halls()
        halls.append((9,))
        halls[0] = None
        self.assertEqual(plan.halls(), [(0, 1), (2,)])


class TestOtherPlans(unittest.TestCase):
    def test_the_examples_of_the_document(self):
        self.assertEqual(sides(Plan([1, 0, 2], [2, 1, 0]).turned()), ((2, 1, 0), (1, 0, 2)))
        plan = Plan([1, 0], [0, 1]) + Plan([0], [0])
        self.assertEqual((plan.right, plan.above, plan.halls()), ((1, 0, 2), (0, 1, 2), [(0, 1), (2,)]))

    def test_turned(self):
        # The inverse of 0 -> 1 -> 2 -> 0 is not the list itself.
        plan = Plan([1, 2, 0, 3], [3, 1, 0, 2]).turned()
        self.assertEqual(sides(plan), ((3, 1, 0, 2), (2, 0, 1, 3)))
        for plan in PLANS:
            turned = plan.turned()
            self.assertEqual(turned.right, plan.above)
            for room in range(plan.size):
                self.assertEqual(turned.above[plan.right[room]], room)

    def test_mirrored(self):
        for plan in PLANS:
            self.assertEqual(sides(plan.mirrored()), (plan.above, plan.right))

    def test_four_quarter_turns_and_two_mirrorings(self):
        for plan in PLANS:
            self.assertTrue(plan.turned().turned().turned().turned() == plan)
            self.assertTrue(plan.mirrored().mirrored() == plan)

    def test_renumbered(self):
        plan = Plan([1, 2, 0], [0, 2, 1]).renumbered([1, 2, 0])
        self.assertEqual(sides(plan), ((1, 2, 0), (2, 1, 0)))
        plan = Plan([1, 2, 0, 3], [3, 1, 0, 2]).renumbered([2, 0, 3, 1])
        self.assertEqual(sides(plan), ((3, 1, 0, 2), (0, 3, 1, 2)))

    def test_renumbered_and_back(self):
        for plan in PLANS:
            size = plan.size
            order = backwards(size)[1:] + [size - 1]
            back = [order.index(room) for room in range(size)]
            renumbered = plan.renumbered(order)
            for room in range(size):
                for letter in ("r", "u"):
                    there = plan.behind(room, letter)
                    self.assertEqual(renumbered.behind(order[room], letter), order[there])
            self.assertTrue(renumbered.renumbered(back) == plan)
            self.assertTrue(plan.renumbered(list(range(size))) == plan)

    def test_renumbered_with_a_wrong_order(self):
        plan = Plan([1, 2, 0], [0, 2, 1])
        for order in ([], [0, 1], [0], [0, 1, 2, 3], [0, 1, 2, 2], [0, 1, 1], [-1, 0, 1], [1, 2, 3], [0, 1, 3],
                      [0, 1, -1], [0, 1, TWENTY_DIGITS], [0, 1, -TWENTY_DIGITS]):
            with self.assertRaises(InvalidPlan):
                plan.renumbered(order)

    def test_sums(self):
        plan = Plan([1, 2, 0], [0, 2, 1]) + Plan([1, 0], [0, 1])
        self.assertEqual(sides(plan), ((1, 2, 0, 4, 3), (0, 2, 1, 3, 4)))
        plan = Plan([1, 0], [0, 1]) + Plan([1, 2, 0], [0, 2, 1])
        self.assertEqual(sides(plan), ((1, 0, 3, 4, 2), (0, 1, 2, 4, 3)))

    def test_a_plan_plus_itself(self):
        plan = Plan([1, 2, 0], [0, 2, 1])
        self.assertEqual(sides(plan + plan), ((1, 2, 0, 4, 5, 3), (0, 2, 1, 3, 5, 4)))

    def test_sums_at_the_bound(self):
        for first, second in ((50, 50), (1, 99), (99, 1)):
            plan = Plan(cycle(first), backwards(first)) + Plan(cycle(second), backwards(second))
            self.assertEqual(plan.size, 100)
            self.assertEqual(plan.right, tuple(cycle(first) + [room + first for room in cycle(second)]))
            self.assertEqual(plan.above, tuple(backwards(first) + [room + first for room in backwards(second)]))
        for first, second in ((50, 51), (1, 100), (100, 1), (100, 100)):
            with self.assertRaises(InvalidPlan):
                Plan(cycle(first), backwards(first)) + Plan(cycle(second), backwards(second))

    def test_equal(self):
        plan = Plan([1, 0, 2], [2, 1, 0])
        self.assertIs(plan == Plan((1, 0, 2), [2, 1, 0]), True)
        self.assertIs(plan != Plan((1, 0, 2), [2, 1, 0]), False)
        for other in (Plan([1, 0, 2], [0, 1, 2]), Plan([0, 1, 2], [2, 1, 0]), plan.mirrored(), Plan([0], [0]),
                      plan + Plan([0], [0])):
            self.assertIs(plan == other, False)
            self.assertIs(other == plan, False)
            self.assertIs(plan != other, True)


class TestHalls(unittest.TestCase):
    def check(self, right, above, halls):
        found = Plan(right, above).halls()
        self.assertEqual(found, halls)
        self.assertIs(type(found), list)
        for hall in found:
            self.assertIs(type(hall), tuple)

    def test_one_hall(self):
        self.check([0], [0], [(0,)])
        self.check([1, 0], [0, 1], [(0, 1)])
        self.check([0, 1], [1, 0], [(0, 1)])
        self.check(cycle(100), list(range(100)), [tuple(range(100))])

    def test_several_halls(self):
        self.check([0, 1, 2], [0, 1, 2], [(0,), (1,), (2,)])
        self.check([3, 1, 2, 0], [0, 2, 1, 3], [(0, 3), (1, 2)])
        self.check([0, 4, 5, 3, 1, 2], [3, 1, 2, 0, 4, 5], [(0, 3), (1, 4), (2, 5)])

    def test_rooms_that_only_a_longer_way_joins(self):
        # 0 - 5 - 1 - 4 - 2 by turns through right and upper sides; 3 stands alone.
        self.check([5, 4, 2, 3, 1, 0], [0, 5, 4, 3, 2, 1], [(0, 1, 2, 4, 5), (3,)])
        # The least room of the second hall is reached last.
        self.check([1, 0, 2, 4, 3], [0, 1, 3, 2, 4], [(0, 1), (2, 3, 4)])

    def test_halls_of_a_sum(self):
        for plan in PLANS[:4]:
            for other in PLANS[:4]:
                moved = [tuple(room + plan.size for room in hall) for hall in other.halls()]
                self.assertEqual((plan + other).halls(), plan.halls() + moved)


if __name__ == "__main__":
    unittest.main()
