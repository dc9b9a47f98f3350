import inspect
import unittest

from slantwalk import deciding
from slantwalk.certificates import LIMIT
from slantwalk.deciding import Answer, check_certificate, decide, holds_at
from slantwalk.errors import InvalidDirection, InvalidRoom, NotInTree, TooManyPairs
from slantwalk.notation import parse_question
from slantwalk.plans import Plan
from slantwalk.questions import Question
from slantwalk.rings import rings_at
from tests.pairs import ROTATIONS, SMALL, Walks, directions_asked, first_directions_of_pairs, rings_of_form
from tests.walks import HUNDRED, LONG, LONG_DIRECTIONS, NO_DIRECTIONS, PLANS, stride

PLAN = Plan([1, 0, 2], [2, 1, 0])
ANY = Question.least_rounds(0)
NEVER = ~ANY
UNDER = (None, (1, 1), (2, 1), (1, 2), (3, 1), (5, 3), (3, 8), (LONG, 1))
MISSING = Question.most_rings(9) & ~Question.through(0, 3) | Question.through(7, 4)


def questions_for(size):
    atoms = [Question.through(a, b) for a in range(min(size, 3)) for b in range(min(size, 3))]
    atoms += [Question.most_rings(k) for k in range(size + 1)] + [Question.least_rounds(k) for k in range(1, size + 2)]
    both = [one & ~two for one in atoms[1:4] for two in atoms[-4:]]
    return atoms + [~atom for atom in atoms] + both + [one | two for one in atoms[::3] for two in atoms]


class TestExamples(unittest.TestCase):
    def test_the_examples_of_the_document(self):
        answer = decide(PLAN, Question.through(1, 0))
        self.assertEqual(
            (answer.always, answer.direction, answer.rings, answer.certificate),
            (False, (0, 1), [(0, 2, (0, 2)), (1, 1, (1,))], None),
        )
        self.assertIs(decide(PLAN, Question.most_rings(2)).always, True)
        wanted = [(((0,), (1,)), ((0,), (1,)), 0, 0)]
        self.assertEqual(decide(Plan([0], [0]), Question.least_rounds(1)).certificate, wanted)

    def test_the_interface_is_defined_in_the_file(self):
        for name, wanted in (
            ("decide", f"(plan, question, *, under=None, limit={LIMIT})"), ("holds_at", "(plan, question, p, q)"),
            ("check_certificate", "(plan, question, certificate, *, under=None)"),
        ):
            function = getattr(deciding, name)
            self.assertEqual(function.__module__, "slantwalk.deciding")
            self.assertEqual(str(inspect.signature(function)), wanted)
        self.assertEqual(Answer.__module__, "slantwalk.deciding")
        for name in ("always", "certificate", "direction", "rings"):
            self.assertIsInstance(Answer.__dict__[name], property)

    def test_kinds_of_the_values(self):
        yes, no = decide(PLAN, ANY), decide(PLAN, ~ANY)
        for answer in (yes, no):
            self.assertIs(type(answer), Answer)
        self.assertEqual((yes.always, yes.direction, yes.rings), (True, None, None))
        self.assertIs(type(yes.certificate), list)
        self.assertEqual((no.always, no.direction, no.certificate), (False, (1, 0), None))
        self.assertEqual([type(part) for part in (no.direction, *no.direction)], [tuple, int, int])
        self.assertIs(type(no.rings), list)
        self.assertTrue(all(type(ring) is tuple and type(ring[2]) is tuple for ring in no.rings))


class TestAnswers(unittest.TestCase):
    def test_against_the_first_directions_one_by_one(self):
        kinds = set()
        for plan, levels in SMALL[:9]:
            walks = Walks(plan)
            for under in UNDER:
                asked = directions_asked(min(levels, 8), under)
                rings = [rings_of_form(walks.form(direction)) for direction in asked]
                for question in questions_for(plan.size):
                    fails = [at for at, found in enumerate(rings) if not question.holds(found)]
                    answer = decide(plan, question, under=under)
                    self.assertIs(answer.always, fails == [])
                    if fails:
                        self.assertEqual((answer.direction, answer.rings), (asked[fails[0]], rings[fails[0]]))
                        self.assertIsNone(answer.certificate)
                    else:
                        self.assertEqual((answer.direction, answer.rings), (None, None))
                        self.assertIs(check_certificate(plan, question, answer.certificate, under=under), True)
                    kinds.add((under is None, answer.always, answer.direction))
        self.assertGreater(len(kinds), 12)

    def test_larger_plans_against_the_first_directions(self):
        directions = directions_asked(5)
        for plan in (*PLANS[3:5], HUNDRED, *ROTATIONS):
            rings = [rings_at(plan, p, q) for p, q in directions]
            for bound in range(1, max(len(found) for found in rings)):
                question = Question.most_rings(bound)
                fails = [at for at, found in enumerate(rings) if len(found) > bound]
                answer = decide(plan, question)
                self.assertEqual((answer.direction, answer.rings), (directions[fails[0]], rings[fails[0]]))

    def test_what_holds_fails_in_the_negation(self):
        for plan, levels in SMALL:
            for question in (Question.most_rings(plan.size), Question.least_rounds(1), Question.through(0, 0)):
                self.assertIs(decide(plan, question).always, True)
                answer = decide(plan, ~question)
                self.assertEqual((answer.direction, answer.rings), ((1, 0), rings_at(plan, 1, 0)))
                answer = decide(plan, ~question, under=(3, 2))
                self.assertEqual((answer.direction, answer.rings), ((3, 2), rings_at(plan, 3, 2)))

    def test_the_first_direction_may_lie_deep_in_the_tree(self):
        # A walk goes p rooms around in a round, so every room comes back to itself where p is a multiple of the size.
        for size in (2, 3, 7, 31):
            plan = Plan(stride(size, 1, 1), list(range(size)))
            first = [direction for direction in directions_asked(9, (1, 1)) if direction[0] % size == 0][0]
            answer = decide(plan, Question.most_rings(1), under=(1, 1))
            self.assertEqual(answer.direction, first)
            self.assertEqual(answer.rings, rings_of_form(Walks(plan).form(first)))
            self.assertEqual(len(answer.rings), size)

    def test_plans_of_a_hundred_rooms(self):
        copies = Plan([1, 0], [0, 1])
        for _ in range(49):
            copies = copies + Plan([1, 0], [0, 1])
        self.assertEqual(copies.size, 100)
        answer = decide(copies, Question.through(98, 98) & Question.most_rings(100))
        self.assertEqual((answer.always, len(answer.certificate)), (True, 7))
        self.assertIs(check_certificate(copies, Question.through(0, 0), answer.certificate), True)
        answer = decide(copies, Question.through(98, 99))
        self.assertEqual((answer.direction, len(answer.rings)), ((0, 1), 100))
        answer = decide(copies, Question.most_rings(50), under=(1, 1))
        self.assertEqual((answer.direction, answer.rings[-1]), ((2, 1), (99, 1, (98, 99))))

    def test_rotations(self):
        for plan in (*ROTATIONS, Plan(stride(31, 1, 1), stride(31, 1, 0)), Plan(stride(31, 1, 4), stride(31, 1, 9))):
            size = plan.size
            answer = decide(plan, Question.most_rings(1) | ~Question.most_rings(size - 1))
            self.assertIs(answer.always, True)
            self.assertGreaterEqual(len(answer.certificate), size * size - 1)


class TestUnder(unittest.TestCase):
    def test_the_direction_itself_fails(self):
        plan, question = Plan([1, 2, 0], [2, 0, 1]), Question.through(0, 1)
        self.assertEqual(decide(plan, question).direction, (1, 1))
        answer = decide(plan, question, under=(1, 1))
        self.assertEqual((answer.direction, answer.rings), ((1, 1), [(0, 1, (0, 1)), (1, 1, (1, 2)), (2, 1, (0, 2))]))
        self.assertIs(decide(plan, question, under=(2, 1)).always, True)
        self.assertIs(decide(plan, question, under=(1, 2)).always, True)

    def test_a_child_fails(self):
        for plan, child, other in (
            (Plan([3, 0, 1, 2], [2, 3, 0, 1]), (2, 1), (1, 2)), (Plan([2, 3, 0, 1], [1, 2, 3, 0]), (1, 2), (2, 1)),
        ):
            question = Question.through(0, 2)
            for under in (None, (1, 1), child):
                answer = decide(plan, question, under=under)
                self.assertEqual((answer.direction, answer.rings), (child, rings_at(plan, *child)))
            self.assertIs(decide(plan, question, under=other).always, True)

    def test_the_side_directions_are_not_asked(self):
        for plan, question, side in (
            (Plan([1, 0], [0, 1]), Question.through(0, 1), (0, 1)),
            (Plan([0, 1], [1, 0]), Question.through(0, 1), (1, 0)),
            (PLAN, Question.through(1, 0), (0, 1)), (PLAN, Question.through(2, 0), (1, 0)),
        ):
            self.assertEqual(decide(plan, question).direction, side)
            self.assertIs(decide(plan, question, under=(1, 1)).always, True)
            self.assertEqual(decide(plan, NEVER, under=(1, 1)).direction, (1, 1))

    def test_long_directions(self):
        for plan in (PLAN, Plan([1, 2, 0], [0, 1, 2]), Plan(stride(31, 1, 1), stride(31, 1, 3))):
            for p, q in LONG_DIRECTIONS:
                answer = decide(plan, NEVER, under=(p, q))
                self.assertEqual((answer.direction, answer.rings), ((p, q), rings_at(plan, p, q)))
                self.assertIs(decide(plan, ANY, under=(p, q)).always, True)

    def test_directions_below_long_directions(self):
        # Every room comes back to itself where p is a multiple of the size.
        plan = Plan(stride(31, 1, 1), list(range(31)))
        for under in LONG_DIRECTIONS:
            answer = decide(plan, Question.most_rings(1), under=under)
            first = [direction for direction in directions_asked(10, under) if direction[0] % 31 == 0][0]
            self.assertEqual((answer.direction, answer.rings), (first, rings_at(plan, *first)))
            self.assertEqual(len(answer.rings), 31)

    def test_long_directions_against_walks(self):
        plan = Plan([1, 2, 0], [2, 0, 1])
        walks = Walks(plan)
        for under in LONG_DIRECTIONS:
            asked = directions_asked(3, under)
            rings = [rings_of_form(walks.form(direction)) for direction in asked]
            for question in questions_for(3):
                fails = [at for at, found in enumerate(rings) if not question.holds(found)]
                if fails:
                    answer = decide(plan, question, under=under)
                    self.assertEqual((answer.direction, answer.rings), (asked[fails[0]], rings[fails[0]]))


class TestLimits(unittest.TestCase):
    def too_many(self, limit, *passed, **named):
        with self.assertRaises(TooManyPairs) as caught:
            decide(*passed, limit=limit, **named)
        self.assertEqual((caught.exception.limit, type(caught.exception)), (limit, TooManyPairs))

    def test_the_number_of_different_pairs(self):
        for plan, levels in SMALL:
            for under in UNDER:
                many = len(first_directions_of_pairs(Walks(plan), levels, under))
                wanted = decide(plan, ANY, under=under).certificate
                self.assertEqual(len(wanted), many)
                for limit in (many, many + 1, 10 * many + 7, 10 ** 30):
                    self.assertEqual(decide(plan, ANY, under=under, limit=limit).certificate, wanted)
                for limit in {0, 1, 2, many // 2, many - 1}:
                    if limit < many:
                        self.too_many(limit, plan, ANY, under=under)

    def test_a_question_that_fails_before_the_limit(self):
        for plan, question, number, direction in (
            (Plan([1, 2, 0], [2, 0, 1]), Question.through(0, 1), 0, (1, 1)),
            (Plan([3, 0, 1, 2], [2, 3, 0, 1]), Question.through(0, 2), 1, (2, 1)),
            (Plan([2, 3, 0, 1], [1, 2, 3, 0]), Question.through(0, 2), 2, (1, 2)),
        ):
            for under in (None, (1, 1)):
                for limit in range(number + 1):
                    self.too_many(limit, plan, question, under=under)
                for limit in (number + 1, number + 2, LIMIT, 10 ** 30):
                    answer = decide(plan, question, under=under, limit=limit)
                    self.assertEqual((answer.direction, answer.rings), (direction, rings_at(plan, *direction)))

    def test_side_directions_are_asked_before_the_limit(self):
        for plan, question, side in (
            (Plan([1, 0], [0, 1]), Question.through(0, 1), (0, 1)),
            (Plan([0, 1], [1, 0]), Question.through(0, 1), (1, 0)), (PLAN, NEVER, (1, 0)),
        ):
            for limit in (0, 1, 2, LIMIT):
                answer = decide(plan, question, limit=limit)
                self.assertEqual((answer.direction, answer.rings), (side, rings_at(plan, *side)))
            # The side directions are not asked with a direction in the tree.
            self.too_many(0, plan, question, under=(1, 1))
            self.too_many(0, plan, question, under=(2, 1))

    def test_a_direction_that_fails_behind_the_limit_is_not_asked(self):
        self.too_many(0, PLAN, NEVER, under=(1, 1))
        self.too_many(0, PLAN, NEVER, under=(LONG, 1))
        self.assertEqual(decide(PLAN, NEVER, under=(LONG, 1), limit=1).direction, (LONG, 1))

    def test_no_pair_has_a_number_below_0(self):
        for under in UNDER:
            self.assertIs(decide(PLAN, ANY, under=under, limit=-1).always, True)

    def test_the_usual_limit(self):
        # One long ring and an exchange of two rooms: there are far too many pairs.
        plan = Plan([*range(1, 11), 0], [1, 0, *range(2, 11)])
        with self.assertRaises(TooManyPairs) as caught:
            decide(plan, Question.most_rings(11))
        self.assertEqual(caught.exception.limit, LIMIT)


class TestHoldsAt(unittest.TestCase):
    def test_against_walks(self):
        for plan, _ in SMALL:
            walks = Walks(plan)
            for p, q in directions_asked(4):
                rings = rings_of_form(walks.form((p, q)))
                for question in questions_for(plan.size):
                    self.assertIs(holds_at(plan, question, p, q), question.holds(rings))

    def test_long_directions(self):
        for plan in (PLAN, Plan(stride(31, 1, 1), stride(31, 1, 3)), HUNDRED):
            for p, q in LONG_DIRECTIONS:
                many = len(rings_at(plan, p, q))
                self.assertIs(holds_at(plan, Question.most_rings(many), p, q), True)
                self.assertIs(holds_at(plan, Question.most_rings(many - 1), p, q), False)


class TestErrors(unittest.TestCase):
    def check(self, error, attributes, call):
        with self.assertRaises(error) as caught:
            call()
        self.assertIs(type(caught.exception), error)
        self.assertEqual(vars(caught.exception), attributes)

    def test_rooms_that_the_plan_does_not_have(self):
        for text, room in (
            ("through 3 0", 3), ("through 0 3", 3), ("rings 9 & ~through 0 3 | through 7 4", 3),
            ("through 0 1 | through 999999999 4", 999999999), ("rounds 9 & (through 2 5 | through 4 3)", 5),
        ):
            question = parse_question(text)
            wanted = {"room": room}
            for limit in (LIMIT, 0, 1):
                self.check(InvalidRoom, wanted, lambda: decide(PLAN, question, limit=limit))
                self.check(InvalidRoom, wanted, lambda: decide(PLAN, question, under=(2, 1), limit=limit))
            self.check(InvalidRoom, wanted, lambda: holds_at(PLAN, question, 2, 1))
            self.check(InvalidRoom, wanted, lambda: check_certificate(PLAN, question, []))
            self.check(InvalidRoom, wanted, lambda: check_certificate(PLAN, question, [], under=(2, 1)))
            rows = decide(PLAN, ANY).certificate
            self.check(InvalidRoom, wanted, lambda: check_certificate(PLAN, question, rows))
        self.check(InvalidRoom, {"room": -1}, lambda: holds_at(PLAN, Question.through(-1, 0), 1, 1))

    def test_the_last_room_is_there(self):
        for plan in (PLAN, HUNDRED, Plan([0], [0])):
            question = Question.through(plan.size - 1, plan.size - 1)
            self.assertIs(holds_at(plan, question, 1, 0), True)
            self.check(InvalidRoom, {"room": plan.size}, lambda: holds_at(plan, Question.through(plan.size, 0), 1, 0))

    def test_no_direction(self):
        rows = decide(PLAN, ANY).certificate
        for p, q in NO_DIRECTIONS:
            wanted = {"p": p, "q": q}
            self.check(InvalidDirection, wanted, lambda: holds_at(PLAN, ANY, p, q))
            for limit in (LIMIT, 0):
                self.check(InvalidDirection, wanted, lambda: decide(PLAN, ANY, under=(p, q), limit=limit))
                self.check(InvalidDirection, wanted, lambda: decide(PLAN, NEVER, under=(p, q), limit=limit))
            for certificate in ([], rows):
                self.check(InvalidDirection, wanted,
                           lambda: check_certificate(PLAN, ANY, certificate, under=(p, q)))

    def test_side_directions_are_not_in_the_tree(self):
        rows = decide(PLAN, ANY).certificate
        for p, q in ((1, 0), (0, 1)):
            wanted = {"p": p, "q": q}
            for limit in (LIMIT, 0):
                self.check(NotInTree, wanted, lambda: decide(PLAN, ANY, under=(p, q), limit=limit))
            for certificate in ([], rows):
                self.check(NotInTree, wanted, lambda: check_certificate(PLAN, ANY, certificate, under=(p, q)))
            self.assertIs(holds_at(PLAN, ANY, p, q), True)

    def test_the_question_comes_before_the_direction(self):
        for p, q in (*NO_DIRECTIONS, (1, 0), (0, 1)):
            wanted = {"room": 3}
            self.check(InvalidRoom, wanted, lambda: holds_at(PLAN, MISSING, p, q))
            for limit in (LIMIT, 0):
                self.check(InvalidRoom, wanted, lambda: decide(PLAN, MISSING, under=(p, q), limit=limit))
                self.check(InvalidRoom, wanted, lambda: decide(PLAN, MISSING, limit=limit))
            self.check(InvalidRoom, wanted, lambda: check_certificate(PLAN, MISSING, [], under=(p, q)))


class TestNoEffects(unittest.TestCase):
    def test_properties_cannot_be_assigned(self):
        for answer in (decide(PLAN, ANY), decide(PLAN, NEVER)):
            before = (answer.always, answer.certificate, answer.direction, answer.rings)
            for name in ("always", "certificate", "direction", "rings"):
                with self.assertRaises(AttributeError):
                    setattr(answer, name, ())
            self.assertEqual((answer.always, answer.certificate, answer.direction, answer.rings), before)

    def test_a_list_that_is_read_from_an_answer_can_be_changed(self):
        answer = decide(PLAN, ANY)
        rows = answer.certificate
        wanted = list(rows)
        rows[0] = None
        rows.pop()
        self.assertEqual(answer.certificate, wanted)
        answer.certificate.clear()
        self.assertEqual(answer.certificate, wanted)
        self.assertEqual(decide(PLAN, ANY).certificate, wanted)
        answer = decide(PLAN, NEVER)
        rings = answer.rings
        wanted = list(rings)
        rings.append(None)
        rings[0] = None
        self.assertEqual(answer.rings, wanted)
        answer.rings.clear()
        self.assertEqual(answer.rings, wanted)

    def test_lists_that_are_given_to_an_answer_are_copied(self):
        rows, rings = [1, 2], [3]
        yes, no = Answer(rows, None, None), Answer(None, (1, 0), rings)
        rows.clear()
        rings.clear()
        self.assertEqual((yes.certificate, no.rings), ([1, 2], [3]))

    def test_no_function_changes_its_arguments(self):
        question = ~(Question.through(0, 1) & Question.most_rings(1)) | Question.least_rounds(1)
        tree = question.tree
        rows = decide(PLAN, ANY).certificate
        before = list(rows)
        for call in (
            lambda: decide(PLAN, question), lambda: decide(PLAN, ~question),
            lambda: decide(PLAN, question, under=(2, 1)), lambda: holds_at(PLAN, question, 3, 2),
            lambda: check_certificate(PLAN, question, rows), lambda: check_certificate(PLAN, ~question, rows),
            lambda: check_certificate(PLAN, question, rows, under=(2, 1)),
        ):
            call()
            self.assertEqual((PLAN.right, PLAN.above, question.tree), ((1, 0, 2), (2, 1, 0), tree))
            self.assertEqual(rows, before)


if __name__ == "__main__":
    unittest.main()
