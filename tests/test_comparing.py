import inspect
import unittest

from slantwalk import comparing
from slantwalk.certificates import LIMIT
from slantwalk.comparing import Comparison, check_alike, compare, ring_lists
from slantwalk.errors import TooManyPairs
from slantwalk.plans import Plan
from slantwalk.rings import rings_at
from tests.pairs import (
    ROTATIONS, SMALL, EndsAlone, Walks, certificate_of, directions_asked, first_directions_of_pairs, rounds_of,
)
from tests.walks import HUNDRED, LONG, PLANS, stride

PLAN = Plan([1, 0, 2], [2, 1, 0])
LEVELS = 11
# Plans that are alike, and that are not renumbered or turned by the program.
TWINS = (
    (Plan([0], [0]), Plan([0], [0])),
    (Plan([1, 0, 2], [2, 1, 0]), Plan([0, 2, 1], [2, 1, 0])),
    (Plan([1, 2, 0], [0, 1, 2]), Plan([2, 0, 1], [0, 1, 2])),
    (Plan([1, 2, 3, 0], [0, 1, 2, 3]), Plan([2, 3, 1, 0], [0, 1, 2, 3])),
)


def changed(rows, number, place, value):
    """A copy of a certificate with another value at one place of one row."""
    row = list(rows[number])
    row[place] = value
    return [*rows[:number], tuple(row), *rows[number + 1:]]


def copies(plan, many):
    found = plan
    for _ in range(many - 1):
        found = found + plan
    return found


class TestExamples(unittest.TestCase):
    def test_the_examples_of_the_document(self):
        comparison = compare(PLAN, Plan([1, 2, 0], [0, 1, 2]))
        self.assertEqual((comparison.alike, comparison.direction, comparison.lists), (False, (1, 0), ((1, 2), (3,))))
        self.assertIsNone(comparison.certificate)
        self.assertEqual(ring_lists(PLAN), [((1, 0), (1, 2)), ((1, 1), (3,))])

    def test_the_interface_is_defined_in_the_file(self):
        for name, wanted in (
            ("compare", f"(plan, other, *, limit={LIMIT})"), ("check_alike", "(plan, other, certificate)"),
            ("ring_lists", f"(plan, *, limit={LIMIT})"),
        ):
            function = getattr(comparing, name)
            self.assertEqual(function.__module__, "slantwalk.comparing")
            self.assertEqual(str(inspect.signature(function)), wanted)
        self.assertEqual(Comparison.__module__, "slantwalk.comparing")
        for name in ("alike", "certificate", "direction", "lists"):
            self.assertIsInstance(Comparison.__dict__[name], property)

    def test_kinds_of_the_values(self):
        yes, no = compare(PLAN, PLAN), compare(PLAN, Plan([0], [0]))
        for comparison in (yes, no):
            self.assertIs(type(comparison), Comparison)
        self.assertEqual((yes.alike, yes.direction, yes.lists), (True, None, None))
        self.assertIs(type(yes.certificate), list)
        for row in yes.certificate:
            self.assertEqual([type(part) for part in row], [tuple, tuple, int, int])
            self.assertEqual([type(part) for form in row[:2] for part in (form, *form)], [tuple] * 6)
        self.assertEqual((no.alike, no.certificate, no.direction, no.lists), (False, None, (1, 0), ((1, 2), (1,))))
        self.assertEqual([type(part) for part in (no.direction, no.lists, *no.lists)], [tuple] * 4)


class TestCompare(unittest.TestCase):
    def yes(self, plan, other):
        comparison = compare(plan, other)
        self.assertEqual((comparison.alike, comparison.direction, comparison.lists), (True, None, None))
        self.assertIs(check_alike(plan, other, comparison.certificate), True)
        return comparison.certificate

    def no(self, plan, other, direction, lists):
        comparison = compare(plan, other)
        self.assertEqual((comparison.alike, comparison.certificate), (False, None))
        self.assertEqual((comparison.direction, comparison.lists), (direction, lists))

    def test_a_plan_and_itself_and_its_twins(self):
        for plan in (*[plan for plan, _ in SMALL], *PLANS[:5]):
            self.yes(plan, plan)
            self.yes(plan, plan.turned().turned())
            self.yes(plan.turned().turned(), plan)
            self.yes(plan, plan.renumbered(list(range(plan.size))[::-1]))
            self.yes(plan, plan.renumbered(stride(plan.size, 1, 1)))
        for plan, other in TWINS:
            self.yes(plan, other)
            self.yes(other, plan)
            self.yes(plan + other, other + plan)

    def test_mirrored(self):
        self.yes(Plan([1, 0, 2], [2, 1, 0]), Plan([1, 0, 2], [2, 1, 0]).mirrored())
        self.no(Plan([1, 0], [0, 1]), Plan([1, 0], [0, 1]).mirrored(), (1, 0), ((2,), (1, 1)))
        self.no(Plan([0, 1], [1, 0]), Plan([0, 1], [1, 0]).mirrored(), (1, 0), ((1, 1), (2,)))
        plan = PLANS[4]
        self.assertEqual(compare(plan, plan.mirrored()).direction, (1, 0))

    def test_lists_that_differ_above_first(self):
        self.no(Plan([1, 0], [1, 0]), Plan([1, 0], [0, 1]), (0, 1), ((2,), (1, 1)))
        self.no(Plan([0, 1], [0, 1]), Plan([0, 1], [1, 0]), (0, 1), ((1, 1), (2,)))

    def test_lists_that_differ_in_the_tree_first(self):
        self.no(Plan([1, 2, 0], [1, 2, 0]), Plan([1, 2, 0], [2, 0, 1]), (1, 1), ((3,), (1, 1, 1)))
        self.no(Plan([1, 2, 0], [2, 0, 1]), Plan([1, 2, 0], [1, 2, 0]), (1, 1), ((1, 1, 1), (3,)))
        one, two, three, four = [Plan(stride(5, 1, 1), stride(5, 1, by)) for by in (1, 2, 3, 4)]
        ones = (1, 1, 1, 1, 1)
        self.no(one, two, (1, 2), ((5,), ones))
        self.no(one, three, (2, 1), ((5,), ones))
        self.no(three, two, (2, 1), (ones, (5,)))
        self.no(one, four, (1, 1), ((5,), ones))

    def test_plans_of_different_sizes(self):
        self.no(Plan([0], [0]), Plan([0, 1], [0, 1]), (1, 0), ((1,), (1, 1)))
        self.no(Plan([0, 1], [0, 1]), Plan([0], [0]), (1, 0), ((1, 1), (1,)))
        self.no(HUNDRED, Plan([0], [0]), (1, 0), (tuple(rounds_of((HUNDRED.right, (0,) * 100))), (1,)))
        self.no(PLAN, PLAN + Plan([0], [0]), (1, 0), ((1, 2), (1, 1, 2)))

    def test_against_the_first_directions_one_by_one(self):
        plans = [plan for plan, _ in SMALL]
        plans += [
            Plan(stride(size, 1, one), stride(size, 1, two)) for size in (4, 5) for one in (0, 1) for two in range(size)
        ]
        plans += [Plan(one, two) for one in ([1, 0, 2], [2, 0, 1]) for two in ([0, 2, 1], [1, 2, 0])]
        directions = directions_asked(6)
        lists = [[rounds_of(walks.form(direction)) for direction in directions] for walks in map(Walks, plans)]
        found = set()
        for one, plan in enumerate(plans):
            for two, other in enumerate(plans):
                differ = [at for at in range(len(directions)) if lists[one][at] != lists[two][at]]
                comparison = compare(plan, other)
                self.assertIs(comparison.alike, differ == [])
                if differ:
                    at = differ[0]
                    self.assertEqual(comparison.direction, directions[at])
                    self.assertEqual(comparison.lists, (lists[one][at], lists[two][at]))
                    self.assertIsNone(comparison.certificate)
                else:
                    self.assertIs(check_alike(plan, other, comparison.certificate), True)
                found.add(comparison.direction)
        self.assertGreaterEqual(found, {None, (1, 0), (0, 1), (1, 1), (2, 1), (1, 2)})

    def test_the_certificate_row_by_row(self):
        for plan, other in (*TWINS, *[(plan, plan.turned().turned()) for plan, _ in SMALL[:7]]):
            found = compare(plan, other).certificate
            self.assertEqual(found, certificate_of(EndsAlone(plan, other), LEVELS if plan.size < 3 else 8))

    def test_rows_of_two_plans_side_by_side(self):
        rows = compare(Plan([1, 0], [0, 1]), Plan([1, 0], [0, 1])).certificate
        turn, rest, none = (1, 0, 3, 2), (0, 1, 2, 3), (0, 0, 0, 0)
        self.assertEqual(rows, [
            ((turn, none), (rest, none), 1, 0), ((turn, none), (turn, none), 0, 2), ((rest, none), (turn, none), 2, 1),
        ])

    def test_two_sums_of_fifty_copies(self):
        for plan in (Plan([1, 0], [0, 1]), Plan([1, 0], [1, 0]), Plan([0, 1], [1, 0])):
            one, two = copies(plan, 50), copies(plan.renumbered([1, 0]), 50)
            self.assertEqual((one.size, two.size), (100, 100))
            rows = self.yes(one, two)
            self.assertEqual(len(rows), len(compare(plan, plan).certificate))
            self.assertEqual([len(part) for part in rows[0][0]], [200, 200])
            self.assertEqual(rows[0][0][0][100:], tuple(100 + room for room in two.right))
        one = copies(Plan([1, 0], [0, 1]), 50)
        other = copies(Plan([1, 0], [0, 1]), 49) + Plan([1, 0], [1, 0])
        self.no(one, other, (0, 1), ((1,) * 100, (1,) * 98 + (2,)))

    def test_rotations(self):
        for plan in (*ROTATIONS, Plan(stride(31, 1, 3), stride(31, 1, 7))):
            rows = self.yes(plan, plan.turned().turned())
            self.assertEqual(len(rows), plan.size ** 2 - 1)


class TestCheckAlike(unittest.TestCase):
    def no(self, plan, other, rows):
        self.assertIs(check_alike(plan, other, rows), False)

    def cases(self):
        for plan, other in TWINS:
            rows = compare(plan, other).certificate
            self.assertIs(check_alike(plan, other, rows), True)
            yield plan, other, rows

    def test_no_rows(self):
        for plan, other, _ in self.cases():
            self.no(plan, other, [])

    def test_rows_left_out_repeated_and_exchanged(self):
        for plan, other, rows in self.cases():
            for number in range(len(rows)):
                self.no(plan, other, rows[:number] + rows[number + 1:])
                if number < len(rows) - 1:
                    self.no(plan, other, rows[:number + 1] + rows[number:])
                self.assertIs(check_alike(plan, other, [*rows, rows[number]]), True)
                for two in range(number + 1, len(rows)):
                    exchanged = list(rows)
                    exchanged[number], exchanged[two] = rows[two], rows[number]
                    self.no(plan, other, exchanged)

    def test_another_order_of_the_rows(self):
        for plan, other, rows in self.cases():
            many = len(rows)
            backwards = [0, *range(many - 1, 0, -1)]
            moved = [rows[number] for number in backwards]
            moved = [(first, second, backwards[flat], backwards[steep]) for first, second, flat, steep in moved]
            self.assertIs(check_alike(plan, other, moved), True)
            if many > 1:
                self.no(plan, other, [rows[number] for number in range(many - 1, -1, -1)])

    def test_a_number_changed(self):
        for plan, other, rows in self.cases():
            many = len(rows)
            for number, row in enumerate(rows):
                for place in (2, 3):
                    values = [value for value in range(many) if value != row[place]]
                    for value in (*values, -1, many, row[place] - many, row[place] + many, LONG):
                        self.no(plan, other, changed(rows, number, place, value))

    def test_a_form_changed(self):
        for plan, other, rows in self.cases():
            size = plan.size + other.size
            for number in (0, len(rows) // 2, len(rows) - 1):
                for place in (0, 1):
                    ends, marks = rows[number][place]
                    for value in (
                        ((*ends[:-2], ends[-1], ends[-2]), marks), ((*ends[:-1], size), marks),
                        ((*ends[:-1], -1), marks), ((*ends[:-1], ends[-1] - size), marks),
                        ((ends[1], *ends[1:]), marks), (ends[:-1], marks),
                        (ends, marks[:-1]), (ends[:-1], marks[:-1]), ((*ends, size), (*marks, 0)), (ends, (*marks, 0)),
                        (ends, (1, *marks[1:])), (ends, (*marks[:-1], -1)), (ends, (*marks[:-1], 2 ** size)),
                    ):
                        self.no(plan, other, changed(rows, number, place, value))
                        form = rows[number][place]
                        self.no(plan, other, [
                            (value if first == form else first, value if second == form else second, flat, steep)
                            for first, second, flat, steep in rows
                        ])

    def test_rows_with_lists_that_differ(self):
        for plan, other, direction in (
            (Plan([1, 0], [0, 1]), Plan([0, 1], [1, 0]), (1, 0)),
            (Plan([1, 0], [0, 1]), Plan([1, 0], [1, 0]), (0, 1)),
            (Plan([1, 2, 0], [1, 2, 0]), Plan([1, 2, 0], [2, 0, 1]), (1, 1)),
            (Plan(stride(5, 1, 1), stride(5, 1, 1)), Plan(stride(5, 1, 1), stride(5, 1, 3)), (2, 1)),
        ):
            rows = certificate_of(EndsAlone(plan, other), LEVELS)
            self.assertEqual(compare(plan, other).direction, direction)
            self.no(plan, other, rows)
            self.assertIs(check_alike(plan, plan, certificate_of(EndsAlone(plan, plan), LEVELS)), True)

    def test_rows_to_which_no_other_row_leads(self):
        plan, other = TWINS[1]
        rows = compare(plan, other).certificate
        many, none, rest = len(rows), (0,) * 6, (0, 1, 2, 3, 4, 5)
        self.assertIs(check_alike(plan, other, [*rows, ((rest, none), (rest, none), many, many)]), True)
        self.no(plan, other, [*rows, ((rest, none), (rest, none), 0, many)])
        # Marks are numbers up to 63 here, although the tables of the plans have none.
        for mark, valid in ((1, True), (63, True), (64, False), (-1, False)):
            marked = (rest, (mark,) * 6)
            self.assertIs(check_alike(plan, other, [*rows, (marked, marked, many, many)]), valid)

    def test_rings_that_lead_from_one_plan_to_the_other(self):
        # The rooms of the first plan are 0 to 2: a ring belongs to the plan in which its start lies.
        plan, other = TWINS[1]
        rows = compare(plan, other).certificate
        many, none, rest = len(rows), (0,) * 6, tuple(range(6))
        for ends, valid in (
            ((3, 1, 2, 0, 4, 5), False), ((3, 4, 5, 0, 1, 2), False), ((1, 0, 2, 4, 3, 5), True),
            ((1, 0, 2, 3, 4, 5), False), ((0, 1, 2, 4, 3, 5), False), ((1, 2, 0, 5, 3, 4), True),
            ((5, 1, 2, 3, 4, 0), False), ((0, 2, 1, 5, 4, 3), True),
        ):
            first, second = (rest, none), (ends, none)
            # The tables of each row are powers of one, and each pair of powers has a row.
            powers = [rest]
            while tuple(ends[room] for room in powers[-1]) != rest:
                powers.append(tuple(ends[room] for room in powers[-1]))
            order = len(powers)
            more = [
                ((powers[one], none), (powers[two], none), many + one * order + (one + two) % order,
                 many + (one + two) % order * order + two)
                for one in range(order) for two in range(order)
            ]
            self.assertIn((first, second), [row[:2] for row in more])
            self.assertIs(check_alike(plan, other, rows + more), valid, ends)

    def test_the_certificate_of_other_plans(self):
        plan, other = TWINS[1]
        rows = compare(plan, other).certificate
        self.no(other, plan, rows)
        self.no(plan, plan, rows)
        self.no(plan + Plan([0], [0]), other, rows)
        self.no(plan, other, compare(plan, plan).certificate)

    def test_the_sums_are_the_same_but_the_border_is_not(self):
        dot = Plan([0], [0])
        rows = compare(dot + dot, dot + dot).certificate
        self.assertIs(check_alike(dot + dot, dot + dot, rows), True)
        self.no(dot, dot + dot + dot, rows)
        self.no(dot + dot + dot, dot, rows)


class TestRingLists(unittest.TestCase):
    def test_against_the_first_directions_one_by_one(self):
        for plan, levels in SMALL:
            walks = Walks(plan)
            wanted = {}
            for direction in directions_asked(min(levels, 8)):
                wanted.setdefault(rounds_of(walks.form(direction)), direction)
            found = ring_lists(plan)
            self.assertEqual(found, [(direction, rounds) for rounds, direction in wanted.items()])
            self.assertIs(type(found), list)
            for entry in found:
                self.assertEqual([type(part) for part in (entry, *entry)], [tuple] * 3)

    def test_larger_plans_against_the_first_directions(self):
        for plan in (PLANS[4], PLANS[4] + Plan([1, 0], [0, 1]), *ROTATIONS):
            walks = Walks(plan)
            wanted = {}
            for direction in directions_asked(7):
                wanted.setdefault(rounds_of(walks.form(direction)), direction)
            found = ring_lists(plan)
            early = [(direction, rounds) for direction, rounds in found if rounds in wanted]
            self.assertEqual(early, [(direction, rounds) for rounds, direction in wanted.items()])
            self.assertEqual(found[:len(early)], early)
            for (p, q), rounds in found:
                self.assertEqual(tuple(sorted(ring[1] for ring in rings_at(plan, p, q))), rounds)
            self.assertEqual(len({rounds for _, rounds in found}), len(found))

    def test_rotations(self):
        for size, one, two in ((23, 1, 0), (23, 0, 1), (29, 1, 1), (29, 4, 9), (31, 1, 30), (31, 6, 0), (31, 3, 7)):
            plan = Plan(stride(size, 1, one), stride(size, 1, two))
            ones, whole = (1,) * size, (size,)
            found = ring_lists(plan)
            at_rest = [(p, q) for p, q in directions_asked(9) if (p * one + q * two) % size == 0][0]
            wanted = [((1, 0) if one > 0 else (0, 1), whole), (at_rest, ones)]
            self.assertEqual(found, wanted if one > 0 else wanted[::-1])

    def test_one_list(self):
        self.assertEqual(ring_lists(Plan([0], [0])), [((1, 0), (1,))])
        self.assertEqual(ring_lists(Plan([0, 1], [0, 1])), [((1, 0), (1, 1))])
        hundred = Plan(list(range(100)), list(range(100)))
        self.assertEqual(ring_lists(hundred, limit=1), [((1, 0), (1,) * 100)])

    def test_lists_of_the_side_directions(self):
        self.assertEqual(ring_lists(Plan([1, 0], [0, 1])), [((1, 0), (2,)), ((0, 1), (1, 1))])
        self.assertEqual(ring_lists(Plan([0, 1], [1, 0])), [((1, 0), (1, 1)), ((0, 1), (2,))])
        self.assertEqual(ring_lists(Plan([1, 0], [1, 0])), [((1, 0), (2,)), ((1, 1), (1, 1))])
        self.assertEqual(ring_lists(copies(Plan([1, 0], [0, 1]), 50)), [((1, 0), (2,) * 50), ((0, 1), (1,) * 100)])

    def test_a_returned_list_can_be_changed(self):
        found = ring_lists(PLAN)
        found.clear()
        self.assertEqual(ring_lists(PLAN), [((1, 0), (1, 2)), ((1, 1), (3,))])


class TestLimits(unittest.TestCase):
    def too_many(self, limit, call):
        with self.assertRaises(TooManyPairs) as caught:
            call(limit)
        self.assertEqual((caught.exception.limit, type(caught.exception)), (limit, TooManyPairs))

    def test_plans_that_are_alike(self):
        for plan, levels in SMALL:
            other = plan.turned().turned()
            many = len(first_directions_of_pairs(EndsAlone(plan, other), levels))
            wanted = compare(plan, other).certificate
            self.assertEqual(len(wanted), many)
            for limit in (many, many + 1, LIMIT, 10 ** 30):
                self.assertEqual(compare(plan, other, limit=limit).certificate, wanted)
            for limit in {0, 1, 2, many // 2, many - 1}:
                if limit < many:
                    self.too_many(limit, lambda limit: compare(plan, other, limit=limit))

    def test_plans_that_differ(self):
        one, two, three = [Plan(stride(5, 1, 1), stride(5, 1, by)) for by in (1, 2, 3)]
        for other, number, direction in ((three, 1, (2, 1)), (two, 2, (1, 2))):
            for limit in range(number + 1):
                self.too_many(limit, lambda limit: compare(one, other, limit=limit))
            for limit in (number + 1, number + 2, LIMIT):
                self.assertEqual(compare(one, other, limit=limit).direction, direction)

    def test_side_directions_are_compared_before_the_limit(self):
        for plan, other, side in (
            (Plan([1, 0], [0, 1]), Plan([0, 1], [0, 1]), (1, 0)), (Plan([1, 0], [0, 1]), Plan([1, 0], [1, 0]), (0, 1)),
        ):
            for limit in (0, 1, LIMIT):
                self.assertEqual(compare(plan, other, limit=limit).direction, side)

    def test_ring_lists(self):
        for plan, levels in SMALL:
            many = len(first_directions_of_pairs(EndsAlone(plan), levels))
            wanted = ring_lists(plan)
            for limit in (many, many + 1, LIMIT, 10 ** 30):
                self.assertEqual(ring_lists(plan, limit=limit), wanted)
            for limit in {0, 1, 2, many // 2, many - 1}:
                if limit < many:
                    self.too_many(limit, lambda limit: ring_lists(plan, limit=limit))

    def test_rotations_have_as_many_pairs_as_wanted(self):
        for size in (23, 29, 31):
            plan = Plan(stride(size, 1, 1), stride(size, 1, 0))
            self.assertEqual(len(ring_lists(plan, limit=size ** 2 - 1)), 2)
            self.too_many(size ** 2 - 2, lambda limit: ring_lists(plan, limit=limit))


class TestNoEffects(unittest.TestCase):
    def test_properties_cannot_be_assigned(self):
        for comparison in (compare(PLAN, PLAN), compare(PLAN, Plan([0], [0]))):
            before = (comparison.alike, comparison.certificate, comparison.direction, comparison.lists)
            for name in ("alike", "certificate", "direction", "lists"):
                with self.assertRaises(AttributeError):
                    setattr(comparison, name, ())
            after = (comparison.alike, comparison.certificate, comparison.direction, comparison.lists)
            self.assertEqual(after, before)

    def test_a_certificate_that_is_read_can_be_changed(self):
        comparison = compare(PLAN, PLAN)
        rows = comparison.certificate
        wanted = list(rows)
        rows[0] = None
        rows.pop()
        self.assertEqual(comparison.certificate, wanted)
        comparison.certificate.clear()
        self.assertEqual(comparison.certificate, wanted)
        self.assertEqual(compare(PLAN, PLAN).certificate, wanted)

    def test_a_list_that_is_given_to_a_comparison_is_copied(self):
        rows = [1, 2]
        comparison = Comparison(rows, None, None)
        rows.clear()
        self.assertEqual(comparison.certificate, [1, 2])

    def test_no_function_changes_its_arguments(self):
        other = Plan([0, 2, 1], [2, 1, 0])
        rows = compare(PLAN, other).certificate
        before = list(rows)
        for call in (
            lambda: compare(PLAN, other), lambda: compare(other, Plan([0], [0])), lambda: ring_lists(PLAN),
            lambda: check_alike(PLAN, other, rows), lambda: check_alike(other, PLAN, rows),
        ):
            call()
            self.assertEqual((PLAN.right, PLAN.above), ((1, 0, 2), (2, 1, 0)))
            self.assertEqual((other.right, other.above), ((0, 2, 1), (2, 1, 0)))
            self.assertEqual(rows, before)


if __name__ == "__main__":
    unittest.main()
