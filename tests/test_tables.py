import inspect
import unittest

from slantwalk.errors import InvalidRoom, UnlikeSizes
from slantwalk.tables import WalkTable
from tests.walks import copies, joined, stride

TWENTY_DIGITS = 12345678901234567890


def sample(size, factor, shift):
    """A table with the ends of a stride and with marks that have nothing to do with them."""
    return WalkTable(stride(size, factor, shift), [(s * s * 7919 + shift) ** 15 % 2 ** size for s in range(size)])


def alone(ends):
    """A table with the marks of the rooms alone."""
    return WalkTable(ends, [2 ** room for room in range(len(ends))])


TABLES = (
    WalkTable([0], [0]), WalkTable([0], [1]), WalkTable([1, 0], [0, 3]), alone([1, 2, 0, 4, 3, 5]),
    WalkTable([1, 2, 0, 4, 3, 5], [0, 63, 1, 32, 5, 18]), sample(7, 3, 2), sample(100, 37, 11), sample(101, 5, 3),
    sample(200, 77, 9),
)


class TestExamples(unittest.TestCase):
    def test_the_example_of_the_document(self):
        table = WalkTable([1, 0, 2], [1, 2, 4]) * WalkTable([2, 1, 0], [1, 2, 4])
        self.assertEqual(
            (table.ends, table.marks, table.left_from(1), (table ** 3).form),
            ((1, 2, 0), (3, 3, 4), (0, 1), ((0, 1, 2), (7, 7, 7))),
        )

    def test_the_interface_is_defined_in_the_class_itself(self):
        self.assertEqual(WalkTable.__module__, "slantwalk.tables")
        for name in ("size", "ends", "marks", "form", "resting", "left_from", "__mul__", "repeated", "__pow__",
                     "__eq__"):
            self.assertIn(name, WalkTable.__dict__)
        self.assertIsInstance(WalkTable.__dict__["resting"], staticmethod)
        self.assertEqual(list(inspect.signature(WalkTable).parameters), ["ends", "marks"])
        self.assertEqual(list(inspect.signature(WalkTable.resting).parameters), ["size"])
        self.assertEqual(list(inspect.signature(WalkTable.left_from).parameters), ["self", "room"])
        self.assertEqual(list(inspect.signature(WalkTable.repeated).parameters), ["self", "count"])


class TestProperties(unittest.TestCase):
    def test_kinds_of_the_values_from_lists_and_from_tuples(self):
        for size in (1, 2, 100, 101, 200):
            ends = [(room + 1) % size for room in range(size)]
            marks = [2 ** size - 1 - room for room in range(size)]
            for table in (WalkTable(ends, marks), WalkTable(tuple(ends), tuple(marks)), WalkTable(tuple(ends), marks)):
                self.assertEqual((table.size, table.ends, table.marks), (size, tuple(ends), tuple(marks)))
                self.assertEqual(table.form, (tuple(ends), tuple(marks)))
                self.assertEqual([type(table.size), type(table.ends), type(table.marks)], [int, tuple, tuple])
                self.assertEqual([type(part) for part in (table.form, *table.form)], [tuple, tuple, tuple])

    def test_properties_cannot_be_assigned(self):
        table = WalkTable([1, 0], [1, 2])
        for name in ("size", "ends", "marks", "form"):
            with self.assertRaises(AttributeError):
                setattr(table, name, (0, 1))
        self.assertEqual((table.size, table.form), (2, ((1, 0), (1, 2))))

    def test_resting(self):
        for size in (1, 2, 100, 101, 200):
            table = WalkTable.resting(size)
            self.assertIsInstance(table, WalkTable)
            self.assertEqual(table.form, (tuple(range(size)), (0,) * size))
            self.assertEqual(table.size, size)


class TestLeftFrom(unittest.TestCase):
    def test_every_room(self):
        for table in TABLES:
            for room in range(table.size):
                found = table.left_from(room)
                self.assertEqual(found, tuple(i for i in range(table.size) if table.marks[room] // 2 ** i % 2 == 1))
                self.assertIs(type(found), tuple)

    def test_no_room_one_room_and_all_rooms(self):
        table = WalkTable([0, 2, 1], [0, 4, 7])
        self.assertEqual([table.left_from(room) for room in range(3)], [(), (2,), (0, 1, 2)])
        table = WalkTable(list(range(200)), [2 ** 200 - 1] * 199 + [2 ** 199 + 1])
        self.assertEqual(table.left_from(0), tuple(range(200)))
        self.assertEqual(table.left_from(199), (0, 199))

    def test_rooms_that_are_not_there(self):
        for table in TABLES:
            size = table.size
            for room in (-1, -size, -size - 1, size, size + 1, 200, TWENTY_DIGITS, -TWENTY_DIGITS, 10 ** 6000):
                with self.assertRaises(InvalidRoom) as caught:
                    table.left_from(room)
                self.assertEqual(caught.exception.room, room)


class TestJoin(unittest.TestCase):
    def test_both_orders(self):
        for one, two in (
            (alone([1, 0, 2]), alone([2, 1, 0])), (alone([1, 2, 0, 4, 3, 5]), sample(6, 5, 2)),
            (sample(100, 37, 11), sample(100, 3, 1)), (sample(101, 5, 3), sample(101, 7, 0)),
            (sample(200, 77, 9), sample(200, 3, 5)),
        ):
            self.assertEqual((one * two).form, joined(one.form, two.form))
            self.assertEqual((two * one).form, joined(two.form, one.form))
            self.assertNotEqual((one * two).form, (two * one).form)
            self.assertIsInstance(one * two, WalkTable)

    def test_the_second_walk_starts_where_the_first_ends(self):
        one, two = WalkTable([1, 2, 0], [1, 0, 0]), WalkTable([0, 2, 1], [0, 2, 4])
        self.assertEqual((one * two).form, ((2, 1, 0), (3, 4, 0)))
        self.assertEqual((two * one).form, ((1, 0, 2), (1, 2, 4)))

    def test_with_itself_and_with_the_resting_table(self):
        for table in TABLES:
            resting = WalkTable.resting(table.size)
            self.assertEqual((table * table).form, joined(table.form, table.form))
            self.assertEqual((table * resting).form, table.form)
            self.assertEqual((resting * table).form, table.form)

    def test_unlike_sizes(self):
        for one in TABLES:
            for two in TABLES:
                if one.size == two.size:
                    continue
                with self.assertRaises(UnlikeSizes) as caught:
                    one * two
                self.assertEqual((caught.exception.first, caught.exception.second), (one.size, two.size))


class TestCopies(unittest.TestCase):
    def assert_copies(self, table, count, wanted):
        for found in (table.repeated(count), table ** count):
            self.assertEqual(found.form, wanted)
            self.assertIsInstance(found, WalkTable)

    def test_small_counts_against_joins(self):
        for table in TABLES:
            wanted = WalkTable.resting(table.size).form
            for count in range(12):
                self.assert_copies(table, count, wanted)
                wanted = joined(wanted, table.form)

    def test_against_a_walk_along_the_ends(self):
        for table in TABLES:
            for count in (0, 1, 2, 3, 11, 64, 1000):
                self.assert_copies(table, count, copies(table.form, count))

    def test_counts_of_eighty_digits(self):
        for count in (10 ** 79, 10 ** 80 - 1, 2 ** 265, 2 ** 265 - 1, 7 * 10 ** 79 + 123456789):
            for table in TABLES:
                self.assert_copies(table, count, copies(table.form, count))


class TestEqual(unittest.TestCase):
    def test_equal_tables(self):
        for table in TABLES:
            same = WalkTable(list(table.ends), list(table.marks))
            self.assertIs(table == same, True)
            self.assertIs(table == table, True)
            self.assertIs(table != same, False)

    def test_tables_that_differ(self):
        table = sample(101, 5, 3)
        ends, marks = list(table.ends), list(table.marks)
        others = []
        for k in (0, 50, 100):
            for bit in (0, 100):
                others.append(WalkTable(ends, [*marks[:k], marks[k] ^ 2 ** bit, *marks[k + 1:]]))
        others.append(WalkTable([ends[1], ends[0], *ends[2:]], marks))
        others.append(WalkTable([*ends[:-2], ends[-1], ends[-2]], marks))
        others.append(WalkTable([*ends, 101], [*marks, 0]))
        others.append(WalkTable.resting(101))
        for other in others:
            self.assertIs(table == other, False)
            self.assertIs(other == table, False)
            self.assertIs(table != other, True)
        self.assertIs(WalkTable.resting(1) == WalkTable.resting(2), False)

    def test_a_form_is_no_table(self):
        self.assertIs(TABLES[3] == TABLES[3].form, False)


class TestNoEffects(unittest.TestCase):
    def test_lists_that_are_changed_later_have_no_effect(self):
        ends, marks = [1, 2, 0], [1, 2, 4]
        table = WalkTable(ends, marks)
        ends[0] = 0
        ends.append(3)
        marks[1] = 7
        marks.pop()
        self.assertEqual((table.size, table.form), (3, ((1, 2, 0), (1, 2, 4))))

    def test_lists_that_are_passed_are_not_changed(self):
        ends, marks = [1, 2, 0], [1, 2, 4]
        table = WalkTable(ends, marks)
        table.repeated(11)
        table.left_from(1)
        self.assertEqual((ends, marks), ([1, 2, 0], [1, 2, 4]))

    def test_no_method_changes_the_table(self):
        for table in TABLES:
            other = WalkTable.resting(table.size)
            before, before_other = table.form, other.form
            calls = (
                lambda: table * other, lambda: other * table, lambda: table * table, lambda: table ** 5,
                lambda: table.repeated(10 ** 79), lambda: table.repeated(0), lambda: table.left_from(0),
                lambda: table == other,
            )
            for call in calls:
                call()
                self.assertEqual((table.form, other.form), (before, before_other))
            for call in (lambda: table.left_from(-1), lambda: table * WalkTable.resting(table.size + 1)):
                with self.assertRaises(ValueError):
                    call()
                self.assertEqual(table.form, before)

    def test_assigning_with_a_sign_makes_a_new_table(self):
        table = kept = WalkTable([1, 2, 0], [1, 2, 4])
        table *= kept
        self.assertEqual(kept.form, ((1, 2, 0), (1, 2, 4)))
        self.assertEqual(table.form, ((2, 0, 1), (3, 6, 5)))
        table **= 2
        self.assertEqual(table.form, ((1, 2, 0), (7, 7, 7)))


if __name__ == "__main__":
    unittest.main()
