import inspect
import unittest

from slantwalk.errors import InvalidRoom
from slantwalk.plans import Plan
from slantwalk.questions import Question
from slantwalk.rings import rings_at

NONE = []
ONE = [(0, 3, (0, 1, 2))]
SEVERAL = [(0, 2, (0, 4)), (1, 3, (1, 3, 4)), (2, 4, (2,))]
LISTS = (NONE, ONE, SEVERAL)
YES, NO = Question.least_rounds(0), Question.most_rings(0) & ~Question.most_rings(0)
MANY = 40


class TestTrees(unittest.TestCase):
    def test_the_six_forms(self):
        one, two = Question.through(1, 0), Question.most_rings(3)
        self.assertEqual(one.tree, ("through", 1, 0))
        self.assertEqual(two.tree, ("rings", 3))
        self.assertEqual(Question.least_rounds(2).tree, ("rounds", 2))
        self.assertEqual((~one).tree, ("not", ("through", 1, 0)))
        self.assertEqual((one & two).tree, ("and", ("through", 1, 0), ("rings", 3)))
        self.assertEqual((two & one).tree, ("and", ("rings", 3), ("through", 1, 0)))
        self.assertEqual((one | two).tree, ("or", ("through", 1, 0), ("rings", 3)))
        self.assertEqual((two | one).tree, ("or", ("rings", 3), ("through", 1, 0)))
        for question in (one, two, Question.least_rounds(2), ~one, one & two, one | two):
            self.assertIsInstance(question, Question)
            self.assertIs(type(question.tree), tuple)

    def test_trees_are_kept_as_they_are(self):
        for tree in (
            ("through", 0, 0), ("rings", 0), ("rounds", 999999999), ("not", ("not", ("rings", 1))),
            ("and", ("or", ("rings", 1), ("rings", 2)), ("not", ("through", 999999999, 0))),
        ):
            self.assertEqual(Question(tree).tree, tree)

    def test_two_negations_are_not_taken_away(self):
        self.assertEqual((~~Question.most_rings(1)).tree, ("not", ("not", ("rings", 1))))

    def test_equal(self):
        one = Question.through(1, 0) & ~Question.most_rings(3)
        same = Question(("and", ("through", 1, 0), ("not", ("rings", 3))))
        self.assertIs(one == same, True)
        self.assertIs(one != same, False)
        for other in (
            Question.through(1, 0), ~Question.most_rings(3), ~Question.most_rings(3) & Question.through(1, 0),
            Question.through(0, 1) & ~Question.most_rings(3), Question.through(1, 0) & ~Question.most_rings(2),
            Question.through(1, 0) | ~Question.most_rings(3), Question.through(1, 0) & ~Question.least_rounds(3), ~~one,
        ):
            self.assertIs(one == other, False)
            self.assertIs(other == one, False)
            self.assertIs(one != other, True)
        self.assertIs(one == one.tree, False)

    def test_the_interface_is_defined_in_the_class_itself(self):
        self.assertEqual(Question.__module__, "slantwalk.questions")
        for name in ("tree", "rooms", "through", "most_rings", "least_rounds", "__invert__", "__and__", "__or__",
                     "__eq__", "holds", "renamed"):
            self.assertIn(name, Question.__dict__)
        for name, wanted in (("through", "(a, b)"), ("most_rings", "(k)"), ("least_rounds", "(k)")):
            self.assertIsInstance(Question.__dict__[name], staticmethod)
            self.assertEqual(str(inspect.signature(getattr(Question, name))), wanted)
        self.assertEqual(str(inspect.signature(Question)), "(tree)")
        self.assertEqual(str(inspect.signature(Question.holds)), "(self, rings)")
        self.assertEqual(str(inspect.signature(Question.renamed)), "(self, order)")

    def test_properties_cannot_be_assigned(self):
        question = Question.through(1, 0)
        for name in ("tree", "rooms"):
            with self.assertRaises(AttributeError):
                setattr(question, name, (0,))
        self.assertEqual((question.tree, question.rooms), (("through", 1, 0), (1, 0)))


class TestHolds(unittest.TestCase):
    def check(self, question, wanted):
        """What is wanted for no ring, for one and for several."""
        found = [question.holds(rings) for rings in LISTS]
        self.assertEqual(found, list(wanted))
        self.assertTrue(all(type(answer) is bool for answer in found))

    def test_most_rings(self):
        self.check(Question.most_rings(0), (True, False, False))
        self.check(Question.most_rings(1), (True, True, False))
        self.check(Question.most_rings(2), (True, True, False))
        self.check(Question.most_rings(3), (True, True, True))
        self.check(Question.most_rings(4), (True, True, True))
        self.check(Question.most_rings(999999999), (True, True, True))

    def test_least_rounds(self):
        self.check(Question.least_rounds(0), (True, True, True))
        self.check(Question.least_rounds(2), (True, True, True))
        self.check(Question.least_rounds(3), (True, True, False))
        self.check(Question.least_rounds(4), (True, False, False))
        self.check(Question.least_rounds(999999999), (True, False, False))

    def test_through(self):
        self.check(Question.through(0, 1), (True, True, False))
        self.check(Question.through(0, 2), (True, True, False))
        self.check(Question.through(0, 4), (True, False, True))
        self.check(Question.through(1, 3), (True, False, True))
        self.check(Question.through(3, 1), (True, True, True))
        # Two rings pass room 4, and only one of them passes the other room.
        self.check(Question.through(4, 0), (True, True, False))
        self.check(Question.through(4, 3), (True, True, False))
        self.check(Question.through(4, 4), (True, True, True))

    def test_rooms_that_no_ring_passes(self):
        self.check(Question.through(5, 0), (True, True, True))
        self.check(Question.through(999999999, 999999999), (True, True, True))
        self.check(Question.through(0, 5), (True, False, False))
        self.check(Question.through(2, 999999999), (True, False, False))

    def test_a_ring_may_pass_other_rooms_than_its_start(self):
        self.assertIs(Question.through(0, 1).holds([(0, 2, (1,))]), True)
        self.assertIs(Question.through(1, 0).holds([(0, 2, (1,))]), False)
        self.assertIs(Question.through(2, 0).holds([(0, 2, (1,)), (2, 2, ())]), True)

    def test_operators(self):
        for rings in LISTS:
            self.assertIs(YES.holds(rings), True)
            self.assertIs(NO.holds(rings), False)
            for one in (YES, NO):
                self.assertIs((~one).holds(rings), one == NO)
                for two in (YES, NO):
                    self.assertIs((one & two).holds(rings), (one, two) == (YES, YES))
                    self.assertIs((one | two).holds(rings), (one, two) != (NO, NO))

    def test_negations_of_atoms(self):
        self.check(~Question.most_rings(1), (False, False, True))
        self.check(~Question.least_rounds(3), (False, False, True))
        self.check(~Question.through(0, 4), (False, True, False))

    def test_forty_operators_one_within_the_other(self):
        atom = Question.through(0, 4)
        for make, wanted in (
            (lambda inner: ~inner, (True, False, True)),
            (lambda inner: inner & YES, (True, False, True)),
            (lambda inner: YES & inner, (True, False, True)),
            (lambda inner: inner | NO, (True, False, True)),
            (lambda inner: Question.least_rounds(4) | inner, (True, False, True)),
            (lambda inner: inner & Question.most_rings(2), (True, False, False)),
            (lambda inner: Question.through(0, 1) | inner, (True, True, True)),
        ):
            question = atom
            for _ in range(MANY):
                question = make(question)
            self.check(question, wanted)
            self.assertEqual(Question(question.tree).holds(SEVERAL), wanted[2])

    def test_rings_of_a_plan(self):
        found = rings_at(Plan([1, 0, 2], [2, 1, 0]), 0, 1)
        self.assertIs(Question.through(1, 0).holds(found), False)
        self.assertIs(Question.through(0, 2).holds(found), True)
        self.assertIs(Question.most_rings(2).holds(found), True)
        self.assertIs(Question.least_rounds(2).holds(found), False)


class TestRooms(unittest.TestCase):
    def test_no_rooms(self):
        both = ~Question.most_rings(3) & Question.least_rounds(1)
        for question in (Question.most_rings(3), Question.least_rounds(2), both):
            self.assertEqual(question.rooms, ())
            self.assertIs(type(question.rooms), tuple)

    def test_from_left_to_right(self):
        self.assertEqual(Question.through(5, 2).rooms, (5, 2))
        self.assertEqual((~Question.through(5, 2)).rooms, (5, 2))
        question = Question.through(7, 3) & (Question.most_rings(9) | ~Question.through(1, 8)) | Question.through(0, 2)
        self.assertEqual(question.rooms, (7, 3, 1, 8, 0, 2))
        inner = ~Question.through(1, 8) | Question.least_rounds(9)
        question = Question.through(0, 2) | inner & Question.through(7, 3)
        self.assertEqual(question.rooms, (0, 2, 1, 8, 7, 3))

    def test_each_room_once(self):
        self.assertEqual(Question.through(4, 4).rooms, (4,))
        question = Question.through(3, 1) & Question.through(1, 2) | Question.through(0, 3) & Question.through(2, 5)
        self.assertEqual(question.rooms, (3, 1, 2, 0, 5))
        self.assertEqual((question & question).rooms, (3, 1, 2, 0, 5))

    def test_forty_operators(self):
        left = right = Question.through(0, 100)
        for k in range(1, MANY + 1):
            left = left & Question.through(k, 100 + k)
            right = Question.through(k, 100 + k) | right
        ascending = [room for k in range(MANY + 1) for room in (k, 100 + k)]
        descending = [room for k in range(MANY, -1, -1) for room in (k, 100 + k)]
        self.assertEqual(left.rooms, tuple(ascending))
        self.assertEqual(right.rooms, tuple(descending))


class TestRenamed(unittest.TestCase):
    question = Question.through(2, 0) & (~Question.through(1, 2) | Question.most_rings(2)) & Question.least_rounds(1)

    def test_an_order_and_its_inverse(self):
        order, inverse = [1, 3, 0, 2], [2, 0, 3, 1]
        renamed = self.question.renamed(order)
        self.assertIsInstance(renamed, Question)
        self.assertEqual(
            renamed.tree,
            ("and", ("and", ("through", 0, 1), ("or", ("not", ("through", 3, 0)), ("rings", 2))), ("rounds", 1)),
        )
        self.assertEqual(renamed.rooms, (0, 1, 3))
        self.assertEqual(renamed.renamed(inverse).tree, self.question.tree)

    def test_only_rooms_are_renamed(self):
        question = Question.most_rings(1) & ~Question.least_rounds(0)
        self.assertEqual(question.renamed([7, 9]).tree, question.tree)
        self.assertEqual(question.renamed([]).tree, question.tree)

    def test_numbers_that_are_equal(self):
        renamed = (Question.through(2, 0) | Question.through(0, 1)).renamed([5, 8, 5])
        self.assertEqual(renamed.tree, ("or", ("through", 5, 5), ("through", 5, 8)))
        self.assertEqual(renamed.rooms, (5, 8))

    def test_a_list_that_is_just_long_enough(self):
        self.assertEqual(self.question.renamed([3, 4, 5]).rooms, (5, 3, 4))
        self.assertEqual(Question.through(0, 0).renamed([999999999]).tree, ("through", 999999999, 999999999))

    def test_the_first_room_that_is_not_an_index(self):
        question = Question.through(1, 7) & (Question.through(4, 9) | Question.through(0, 3))
        for size, room in ((0, 1), (1, 1), (2, 7), (4, 7), (7, 7), (8, 9), (9, 9)):
            with self.assertRaises(InvalidRoom) as caught:
                question.renamed([0] * size)
            self.assertEqual(caught.exception.room, room)
        self.assertEqual(question.renamed([0] * 10).rooms, (0,))

    def test_rooms_that_are_never_an_index(self):
        with self.assertRaises(InvalidRoom) as caught:
            Question.through(999999999, 999999998).renamed([0])
        self.assertEqual(caught.exception.room, 999999999)
        with self.assertRaises(InvalidRoom) as caught:
            Question.through(0, -1).renamed([0, 1])
        self.assertEqual(caught.exception.room, -1)

    def test_forty_operators(self):
        for make in (lambda inner: ~inner, lambda inner: inner & Question.through(1, 0),
                     lambda inner: Question.through(1, 0) | inner):
            question = Question.through(0, 1)
            for _ in range(MANY):
                question = make(question)
            renamed = question.renamed([1, 0])
            self.assertNotEqual(renamed.tree, question.tree)
            self.assertEqual(renamed.renamed([1, 0]).tree, question.tree)


class TestNoEffects(unittest.TestCase):
    def test_no_method_changes_the_question_the_rings_or_the_order(self):
        one = Question.through(2, 0) & ~Question.most_rings(2)
        two = Question.least_rounds(2)
        tree = ("and", ("through", 2, 0), ("not", ("rings", 2)))
        rings, order = list(SEVERAL), [1, 3, 0, 2]
        calls = (
            lambda: ~one, lambda: one & two, lambda: one | two, lambda: two & one, lambda: one == two,
            lambda: one.rooms, lambda: one.holds(rings), lambda: two.holds(rings), lambda: one.renamed(order),
        )
        for call in calls:
            call()
            self.assertEqual((one.tree, two.tree), (tree, ("rounds", 2)))
            self.assertEqual((rings, order), (SEVERAL, [1, 3, 0, 2]))
        with self.assertRaises(InvalidRoom):
            one.renamed([0])
        self.assertEqual(one.tree, tree)

    def test_a_list_that_is_changed_later_has_no_effect(self):
        order = [1, 3, 0, 2]
        renamed = Question.through(0, 1).renamed(order)
        order[0] = 9
        order.pop()
        self.assertEqual((renamed.tree, renamed.rooms), (("through", 1, 3), (1, 3)))


if __name__ == "__main__":
    unittest.main()
