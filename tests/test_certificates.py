import unittest

from slantwalk import certificates
from slantwalk.certificates import LIMIT
from slantwalk.deciding import check_certificate, decide, holds_at
from slantwalk.plans import Plan
from slantwalk.questions import Question
from tests.pairs import ROTATIONS, SMALL, Walks, certificate_of, rings_of_form
from tests.walks import LONG, joined

ANY = Question.least_rounds(0)
UNDER = (None, (1, 1), (2, 1), (1, 2), (5, 3), (3, 8), (LONG, 1), (10 ** 20 + 1, LONG + 7))
PLAN = Plan([1, 2, 0], [2, 0, 1])
TURNING = Plan([1, 2, 3, 0], [0, 1, 2, 3])


def changed(rows, number, place, value):
    """A copy of a certificate with another value at one place of one row."""
    row = list(rows[number])
    row[place] = value
    return [*rows[:number], tuple(row), *rows[number + 1:]]


def renumbered(rows, order):
    """The rows in another order: row k stands at order[k], and the numbers say so."""
    found = [None] * len(rows)
    for number, (first, second, flat, steep) in enumerate(rows):
        found[order[number]] = (first, second, order[flat], order[steep])
    return found


def shifted(rows, by):
    return [(first, second, flat + by, steep + by) for first, second, flat, steep in rows]


class TestLimit(unittest.TestCase):
    def test_the_limit(self):
        self.assertEqual(LIMIT, 200000)
        self.assertIs(type(certificates.LIMIT), int)


class TestCertificates(unittest.TestCase):
    def test_one_room(self):
        self.assertEqual(decide(Plan([0], [0]), ANY).certificate, [(((0,), (1,)), ((0,), (1,)), 0, 0)])

    def test_row_by_row_against_walks(self):
        for plan, levels in SMALL:
            walks = Walks(plan)
            for under in UNDER:
                found = decide(plan, ANY, under=under).certificate
                self.assertEqual(found, certificate_of(walks, levels, under))

    def test_kinds_of_the_values(self):
        found = decide(PLAN, ANY).certificate
        self.assertIs(type(found), list)
        for row in found:
            self.assertEqual([type(part) for part in row], [tuple, tuple, int, int])
            for form in row[:2]:
                self.assertEqual([type(part) for part in (form, *form)], [tuple] * 3)
                self.assertTrue(all(type(number) is int for part in form for number in part))

    def test_the_certificate_is_that_of_the_plan_whatever_the_question(self):
        for plan, _ in SMALL:
            for under in UNDER:
                wanted = decide(plan, ANY, under=under).certificate
                for question in (Question.most_rings(plan.size), ~Question.least_rounds(plan.size + 1),
                                 Question.through(0, 0) & Question.most_rings(99)):
                    self.assertEqual(decide(plan, question, under=under).certificate, wanted)

    def test_pairs_are_numbered_in_the_order_in_which_rows_lead_to_them(self):
        for plan in ROTATIONS:
            rows = decide(plan, ANY).certificate
            self.assertGreater(len(rows), 1000)
            self.assertEqual(len({row[:2] for row in rows}), len(rows))
            met = [0]
            seen = {0}
            for _, _, flat, steep in rows:
                for number in (flat, steep):
                    if number not in seen:
                        seen.add(number)
                        met.append(number)
            self.assertEqual(met, list(range(len(rows))))


class TestValid(unittest.TestCase):
    def yes(self, plan, question, rows, under=None):
        self.assertIs(check_certificate(plan, question, rows, under=under), True)

    def test_the_certificates_of_answers(self):
        for plan, _ in SMALL:
            for under in UNDER:
                for question in (ANY, Question.most_rings(plan.size), ~Question.least_rounds(plan.size + 1)):
                    self.yes(plan, question, decide(plan, question, under=under).certificate, under)

    def test_certificates_that_are_made_from_walks(self):
        for plan, levels in SMALL[:7]:
            for under in UNDER:
                self.yes(plan, ANY, certificate_of(Walks(plan), levels, under), under)

    def test_many_rows(self):
        for plan in ROTATIONS:
            question = Question.most_rings(plan.size)
            rows = decide(plan, question).certificate
            self.yes(plan, question, rows)
            self.yes(plan, question, renumbered(rows, [0, *range(len(rows) - 1, 0, -1)]))

    def test_another_order_of_the_rows_behind_row_0(self):
        rows = decide(PLAN, ANY).certificate
        last = len(rows) - 1
        for order in ([0, *range(last, 0, -1)], [0, *range(2, last + 1), 1], [0, last, *range(1, last)],
                      [0, 2, 1, *range(3, last + 1)]):
            self.yes(PLAN, ANY, renumbered(rows, order))

    def test_rows_that_occur_twice(self):
        rows = decide(PLAN, ANY).certificate
        for number, row in enumerate(rows):
            self.yes(PLAN, ANY, [*rows, row])
            self.yes(PLAN, ANY, [*rows, row, row])
            # Some rows lead to the one, and some to the other.
            first, second, flat, steep = row
            twice = [*rows, row]
            for at, (one, two, left, right) in enumerate(rows):
                if at % 2 == 0:
                    left, right = [len(rows) if there == number else there for there in (left, right)]
                twice[at] = (one, two, left, right)
            self.yes(PLAN, ANY, twice)
        self.yes(PLAN, ANY, rows + shifted(rows, len(rows)))

    def test_rows_to_which_no_other_row_leads(self):
        rows = decide(PLAN, ANY).certificate
        for other in (PLAN.mirrored(), Plan([1, 2, 0], [0, 1, 2]), Plan([0, 1, 2], [0, 1, 2])):
            more = decide(other, ANY).certificate
            self.yes(PLAN, ANY, rows + shifted(more, len(rows)))

    def test_more_rows_than_are_needed(self):
        # All rows of the plan are good for a direction in the tree, too, if the
        # row of this direction stands first.
        rows = decide(PLAN, ANY).certificate
        for under in ((2, 1), (1, 2), (5, 3)):
            first = decide(PLAN, ANY, under=under).certificate[0][:2]
            number = [row[:2] for row in rows].index(first)
            order = list(range(len(rows)))
            order[0], order[number] = number, 0
            self.yes(PLAN, ANY, renumbered(rows, order), under)


class TestNotValid(unittest.TestCase):
    def no(self, plan, question, rows, under=None):
        self.assertIs(check_certificate(plan, question, rows, under=under), False)

    def cases(self):
        for plan, question, under in (
            (PLAN, Question.most_rings(3), None), (PLAN, Question.through(0, 1), (2, 1)), (TURNING, ANY, (2, 3)),
            (Plan([0], [0]), Question.through(0, 0), None), (Plan([1, 0], [0, 1]), ~Question.least_rounds(3), None),
        ):
            rows = decide(plan, question, under=under).certificate
            self.assertIs(check_certificate(plan, question, rows, under=under), True)
            yield plan, question, under, rows

    def test_no_rows(self):
        for plan, question, under, _ in self.cases():
            self.no(plan, question, [], under)

    def test_a_row_left_out(self):
        for plan, question, under, rows in self.cases():
            for number in range(len(rows)):
                left = rows[:number] + rows[number + 1:]
                self.no(plan, question, left, under)
                # Also if the numbers of the other rows are put right.
                self.no(plan, question, [
                    (first, second, flat - (flat > number), steep - (steep > number))
                    for first, second, flat, steep in left
                ], under)

    def test_a_row_repeated_between_the_others(self):
        for plan, question, under, rows in self.cases():
            for number in range(len(rows) - 1):
                self.no(plan, question, rows[:number + 1] + rows[number:], under)

    def test_two_rows_exchanged(self):
        for plan, question, under, rows in self.cases():
            for one in range(len(rows)):
                for two in range(one + 1, len(rows)):
                    exchanged = list(rows)
                    exchanged[one], exchanged[two] = rows[two], rows[one]
                    self.no(plan, question, exchanged, under)

    def test_another_row_first(self):
        for plan, question, under, rows in self.cases():
            for number in range(1, len(rows)):
                order = list(range(len(rows)))
                order[0], order[number] = number, 0
                self.no(plan, question, renumbered(rows, order), under)

    def test_a_number_changed(self):
        for plan, question, under, rows in self.cases():
            many = len(rows)
            for number, row in enumerate(rows):
                for place in (2, 3):
                    others = [other for other in range(many) if other != row[place]]
                    for value in (*others, row[place] - many, row[place] + many, -1, many, LONG, -LONG):
                        self.no(plan, question, changed(rows, number, place, value), under)

    def test_the_two_numbers_exchanged(self):
        for plan, question, under, rows in self.cases():
            for number, (first, second, flat, steep) in enumerate(rows):
                if flat != steep:
                    self.no(plan, question, changed(changed(rows, number, 2, steep), number, 3, flat), under)

    def check_forms(self, change):
        """With one form changed in one row, and with the same change wherever that form stands."""
        for plan, question, under, rows in self.cases():
            for number in (0, len(rows) // 2, len(rows) - 1):
                for place in (0, 1):
                    form = rows[number][place]
                    for other in change(form, plan.size):
                        self.assertNotEqual(other, form)
                        self.no(plan, question, changed(rows, number, place, other), under)
                        everywhere = [
                            (other if first == form else first, other if second == form else second, flat, steep)
                            for first, second, flat, steep in rows
                        ]
                        self.no(plan, question, everywhere, under)

    def test_an_end_changed(self):
        def change(form, size):
            ends, marks = form
            for at in range(size):
                for value in (ends[at] + 1, ends[at] - 1, -1, size, ends[at] - size, ends[at] + size, LONG, -LONG):
                    if value != ends[at]:
                        yield ((*ends[:at], value, *ends[at + 1:]), marks)
                if at > 0:
                    yield ((*ends[:at - 1], ends[at], ends[at - 1], *ends[at + 1:]), marks)
        self.check_forms(change)

    def test_a_mark_changed(self):
        def change(form, size):
            ends, marks = form
            for at in range(size):
                for value in (*[marks[at] ^ 2 ** room for room in range(size)], -1, 2 ** size, 2 ** size + marks[at],
                              marks[at] - 2 ** size, 2 ** LONG.bit_length(), -marks[at]):
                    if value != marks[at]:
                        yield (ends, (*marks[:at], value, *marks[at + 1:]))
        self.check_forms(change)

    def test_the_length_of_a_form_changed(self):
        def change(form, size):
            ends, marks = form
            yield (ends[:-1], marks)
            yield (ends, marks[:-1])
            yield (ends[:-1], marks[:-1])
            yield ((), ())
            yield ((*ends, size), marks)
            yield ((*ends, ends[0]), marks)
            yield (ends, (*marks, 0))
            yield (ends, (*marks, 2 ** size))
            yield ((*ends, size), (*marks, 2 ** size))
            yield ((*ends, 0), (*marks, 1))
            yield (ends,)
            yield (ends, marks, ())
            yield ()
        self.check_forms(change)

    def test_rows_to_which_no_other_row_leads_must_hold_too(self):
        for plan, question, under, rows in self.cases():
            size, many = plan.size, len(rows)
            rest = tuple(range(size))
            # The row of two tables without crossings leads to itself.
            good = ((rest, (0,) * size), (rest, (0,) * size), many, many)
            self.assertIs(check_certificate(plan, ANY, [*rows, good], under=under), True)
            for bad in (
                (good[0], good[1], 0, many), (good[0], good[1], many, 0), (good[0], good[1], many + 1, many),
                (good[0], good[1], many, -1), (good[0], (rest, (0,) * (size - 1) + (2 ** size,)), many, many),
                ((rest[::-1], (0,) * size), good[1], many, many) if size > 1 else ((), (), many, many),
                ((rest[1:], (0,) * size), good[1], many, many), (good[0], (rest, (0,) * (size + 1)), many, many),
                ((rest, (-1,) * size), (rest, (-1,) * size), many, many),
                ((rest, (2 ** size,) * size), (rest, (2 ** size,) * size), many, many),
                (((0,) * size, (0,) * size), ((0,) * size, (0,) * size), many, many) if size > 1 else good[:3] + (-1,),
            ):
                self.no(plan, ANY, [*rows, bad], under)

    def test_the_certificate_of_another_plan_or_another_direction(self):
        for plan, question, under, rows in self.cases():
            for other in ((3, 2), (1, 4), (LONG, 1)):
                if decide(plan, ANY, under=other).certificate[0][:2] != rows[0][:2]:
                    self.no(plan, question, rows, other)
                    self.no(plan, question, decide(plan, ANY, under=other).certificate, under)
        rows = decide(PLAN, ANY).certificate
        self.no(PLAN.mirrored(), ANY, rows)
        self.no(PLAN + Plan([0], [0]), ANY, rows)
        self.no(Plan([0, 1], [0, 1]), ANY, rows)

    def test_a_question_that_fails_in_one_row_only(self):
        for plan, question, number in (
            (PLAN, Question.through(0, 1), 0),
            (Plan([3, 0, 1, 2], [2, 3, 0, 1]), Question.through(0, 2), 1),
            (Plan([2, 3, 0, 1], [1, 2, 3, 0]), Question.through(0, 2), 2),
        ):
            rows = decide(plan, ANY).certificate
            joins = [joined(first, second) for first, second, _, _ in rows]
            fails = [at for at, form in enumerate(joins) if not question.holds(rings_of_form(form))]
            self.assertEqual(fails, [number])
            self.assertTrue(holds_at(plan, question, 1, 0) and holds_at(plan, question, 0, 1))
            self.no(plan, question, rows)
            self.no(plan, question, rows, (1, 1))
            self.no(plan, question, renumbered(rows, [0, *range(len(rows) - 1, 0, -1)]))
            self.assertIs(check_certificate(plan, ~~ANY | question, rows), True)
            # Below this direction there is no such row.
            below = decide(plan, ANY, under=(8, 5)).certificate
            self.assertIs(check_certificate(plan, question, below, under=(8, 5)), True)

    def test_a_question_that_fails_in_a_row_to_which_no_other_row_leads(self):
        question = Question.through(0, 1)
        plan = Plan([1, 2, 0], [1, 2, 0])
        rows = decide(plan, ANY).certificate
        self.assertIs(check_certificate(plan, question, rows), True)
        rest = (0, 1, 2)
        alone = ((rest, (1, 2, 4)), (rest, (1, 2, 4)), len(rows), len(rows))
        self.assertIs(check_certificate(plan, ANY, [*rows, alone]), True)
        self.no(plan, question, [*rows, alone])
        # The question fails for the second table of this pair, but not for the join.
        other = Plan([1, 2, 0], [0, 1, 2])
        self.assertIs(holds_at(other, question, 0, 1), False)
        more = decide(other, ANY).certificate
        self.assertIs(check_certificate(plan, question, rows + shifted(more, len(rows))), True)

    def test_a_question_that_fails_in_a_side_direction_only(self):
        for plan, question, side in (
            (Plan([1, 0], [0, 1]), Question.through(0, 1), (0, 1)),
            (Plan([0, 1], [1, 0]), Question.through(0, 1), (1, 0)),
            (Plan([1, 0, 2], [2, 1, 0]), Question.through(1, 0), (0, 1)),
            (Plan([1, 0, 2], [2, 1, 0]), Question.through(2, 0), (1, 0)),
        ):
            rows = decide(plan, ANY).certificate
            for p, q in ((1, 0), (0, 1)):
                self.assertIs(holds_at(plan, question, p, q), (p, q) != side)
            self.no(plan, question, rows)
            self.assertIs(check_certificate(plan, question, rows, under=(1, 1)), True)


if __name__ == "__main__":
    unittest.main()
