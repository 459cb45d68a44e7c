"""Points 2, 3 and 4: tables, schemas, and the worlds that keep them."""

import unittest
from itertools import combinations

from surelywhole.errors import Ring, UnknownTable
from surelywhole.schemas import Schema, Table
from tests import reference


class Tables(unittest.TestCase):

    def test_the_attributes_are_those_of_the_arguments(self):
        table = Table(
            "pupil", 3, key=(0, 2), lists={1: ("g1", "g2"), 2: ("x",)}, refers=((1, "group", 0), (0, "room", 1))
        )
        self.assertEqual(table.name, "pupil")
        self.assertEqual(table.width, 3)
        self.assertEqual(table.key, (0, 2))
        self.assertEqual(table.lists, {1: ("g1", "g2"), 2: ("x",)})
        self.assertEqual(table.refers, ((1, "group", 0), (0, "room", 1)))

    def test_without_keyword_arguments(self):
        table = Table("pupil", 2)
        self.assertEqual((table.name, table.width), ("pupil", 2))
        self.assertEqual(table.key, ())
        self.assertEqual(table.lists, {})
        self.assertEqual(table.refers, ())

    def test_tables_without_lists_share_none(self):
        self.assertIsNot(Table("p", 1).lists, Table("q", 1).lists)

    def test_key_columns_in_any_order_and_twice(self):
        for key in ((2, 0), (0, 2, 0), [2, 0, 2], {2, 0}):
            with self.subTest(key=key):
                self.assertEqual(Table("p", 3, key=key).key, (0, 2))
        self.assertEqual(Table("p", 12, key=(10, 9, 2)).key, (2, 9, 10))

    def test_lists_in_any_order_and_with_equal_items(self):
        table = Table("p", 2, lists={1: ["c", "a", "c", "b"], 0: ("b", "b")})
        self.assertEqual(table.lists, {0: ("b",), 1: ("a", "b", "c")})
        self.assertEqual(Table("p", 1, lists={0: ("b", "a1", "2", "10", "a")}).lists, {0: ("10", "2", "a", "a1", "b")})

    def test_kinds_of_the_attributes(self):
        table = Table("p", 2, key=[1], lists={1: ["c", "a"]})
        self.assertIsInstance(table.key, tuple)
        self.assertIsInstance(table.lists, dict)
        self.assertIsInstance(table.lists[1], tuple)
        self.assertIsInstance(table.refers, tuple)

    def test_arguments_changed_after_the_call(self):
        key, values, refers = [1], ["b", "a"], [(0, "q", 0)]
        lists = {0: values}
        table = Table("p", 2, key=key, lists=lists, refers=refers)
        key.append(0)
        values.append("c")
        lists[1] = ["z"]
        refers.append((1, "q", 0))
        self.assertEqual(table.key, (1,))
        self.assertEqual(table.lists, {0: ("a", "b")})
        self.assertEqual(table.refers, ((0, "q", 0),))

    def test_arguments_are_left_as_they_were(self):
        key, values = [1, 0, 1], ["b", "a", "b"]
        lists = {1: values, 0: ["z"]}
        Table("p", 2, key=key, lists=lists)
        self.assertEqual(key, [1, 0, 1])
        self.assertEqual(values, ["b", "a", "b"])
        self.assertEqual(list(lists.items()), [(1, values), (0, ["z"])])


class Schemas(unittest.TestCase):

    def test_table_returns_each_table(self):
        tables = [Table("p", 1), Table("q", 2), Table("r", 3)]
        schema = Schema(*tables)
        for table in tables:
            self.assertIs(schema.table(table.name), table)

    def test_table_raises_for_a_name_that_no_table_has(self):
        schema = Schema(Table("p", 1), Table("q", 2))
        for name in ("r", "pq", "", "P"):
            with self.subTest(name), self.assertRaises(UnknownTable) as caught:
                schema.table(name)
            self.assertEqual(caught.exception.name, name)

    def unknown(self, *tables):
        with self.assertRaises(UnknownTable) as caught:
            Schema(*tables)
        return caught.exception.name

    def ring(self, *tables):
        with self.assertRaises(Ring) as caught:
            Schema(*tables)
        return caught.exception.name

    def test_a_reference_to_no_table(self):
        self.assertEqual(self.unknown(Table("p", 1, refers=((0, "x", 0),))), "x")

    def test_the_first_reference_to_no_table_counts(self):
        first = Table("p", 1, refers=((0, "q", 0), (0, "y", 0), (0, "x", 0)))
        later = Table("q", 1, refers=((0, "a", 0),))
        self.assertEqual(self.unknown(first, later), "y")
        self.assertEqual(self.unknown(later, first), "a")

    def test_a_reference_to_no_table_comes_before_a_ring(self):
        ring = Table("p", 1, refers=((0, "p", 0),))
        wrong = Table("q", 1, refers=((0, "p", 0), (0, "x", 0)))
        self.assertEqual(self.unknown(ring, wrong), "x")
        self.assertEqual(self.unknown(wrong, ring), "x")
        self.assertEqual(self.unknown(Table("p", 1, refers=((0, "p", 0), (0, "x", 0)))), "x")

    def test_a_table_that_reaches_itself_directly(self):
        self.assertEqual(self.ring(Table("a", 1), Table("p", 2, refers=((0, "a", 0), (1, "p", 0)))), "p")

    def test_a_table_that_reaches_itself_through_one_other(self):
        p = Table("p", 1, refers=((0, "q", 0),))
        q = Table("q", 1, refers=((0, "p", 0),))
        self.assertEqual(self.ring(p, q), "p")
        self.assertEqual(self.ring(q, p), "q")
        self.assertEqual(self.ring(Table("a", 1), q, p), "q")

    def test_a_table_that_reaches_itself_through_two_others(self):
        p = Table("p", 1, refers=((0, "q", 0),))
        q = Table("q", 1, refers=((0, "r", 0),))
        r = Table("r", 1, refers=((0, "p", 0),))
        self.assertEqual(self.ring(p, q, r), "p")
        self.assertEqual(self.ring(r, q, p), "r")

    def test_a_table_that_only_reaches_a_ring_is_not_told(self):
        to_ring = Table("p", 1, refers=((0, "q", 0),))
        q = Table("q", 1, refers=((0, "r", 0),))
        r = Table("r", 1, refers=((0, "q", 0),))
        self.assertEqual(self.ring(to_ring, r, q), "r")
        self.assertEqual(self.ring(to_ring, Table("q", 1, refers=((0, "q", 0),))), "q")

    def test_two_ways_to_one_table_are_no_ring(self):
        p = Table("p", 2, refers=((0, "r", 0), (1, "r", 0)))
        q = Table("q", 2, refers=((0, "p", 0), (1, "r", 0)))
        self.assertIs(Schema(p, q, Table("r", 1)).table("q"), q)


class Holds(unittest.TestCase):

    def test_the_world_without_rows(self):
        self.assertIs(Schema(Table("p", 1, key=(0,), lists={0: ("a",)})).holds([]), True)

    def test_two_different_rows_that_agree_on_a_key(self):
        schema = Schema(Table("p", 3, key=(0, 1)), Table("q", 3))
        self.assertIs(schema.holds([("p", "a", "b", "c"), ("p", "a", "b", "d")]), False)
        self.assertIs(schema.holds([("p", "a", "b", "c"), ("q", "a", "b", "c"), ("p", "a", "b", "d")]), False)
        self.assertIs(schema.holds([("p", "a", "b", "c"), ("p", "a", "c", "c"), ("p", "c", "b", "c")]), True)

    def test_rows_of_different_tables_do_not_agree(self):
        schema = Schema(Table("p", 2, key=(0,)), Table("q", 2, key=(0,)))
        self.assertIs(schema.holds([("p", "a", "b"), ("q", "a", "c")]), True)

    def test_equal_rows_twice(self):
        schema = Schema(Table("p", 2, key=(0,)))
        self.assertIs(schema.holds([("p", "a", "b"), ("p", "a", "b")]), True)

    def test_an_empty_key_means_that_there_is_none(self):
        schema = Schema(Table("p", 2, key=()))
        self.assertIs(schema.holds([("p", "a", "b"), ("p", "a", "c"), ("p", "b", "b")]), True)

    def test_a_value_off_its_columns_list(self):
        schema = Schema(Table("p", 2, lists={1: ("a", "b")}))
        self.assertIs(schema.holds([("p", "c", "a"), ("p", "c", "b")]), True)
        self.assertIs(schema.holds([("p", "a", "a"), ("p", "a", "c")]), False)

    def test_a_reference_with_and_without_its_row(self):
        schema = Schema(Table("p", 2, refers=((1, "q", 1),)), Table("q", 2))
        self.assertIs(schema.holds([("p", "a", "b"), ("q", "z", "b")]), True)
        self.assertIs(schema.holds([("q", "z", "b"), ("p", "a", "b")]), True)
        self.assertIs(schema.holds([("p", "a", "b")]), False)
        self.assertIs(schema.holds([("p", "a", "b"), ("q", "b", "z")]), False)
        self.assertIs(schema.holds([("p", "a", "b"), ("p", "b", "b")]), False)
        self.assertIs(schema.holds([("q", "z", "b")]), True)

    def test_every_reference_counts(self):
        schema = Schema(
            Table("p", 1, refers=((0, "q", 0), (0, "r", 0))), Table("q", 1), Table("r", 1)
        )
        self.assertIs(schema.holds([("p", "a"), ("q", "a"), ("r", "a")]), True)
        self.assertIs(schema.holds([("p", "a"), ("q", "a")]), False)
        self.assertIs(schema.holds([("p", "a"), ("r", "a")]), False)

    def test_the_list_handed_over_is_left_as_it_was(self):
        schema = Schema(Table("p", 2, key=(0,), refers=((1, "q", 0),)), Table("q", 1))
        world = [("q", "b"), ("p", "a", "b"), ("q", "b"), ("p", "a", "c")]
        copy = list(world)
        schema.holds(world)
        self.assertEqual(world, copy)

    def test_all_small_worlds(self):
        tables = {
            "p": Table("p", 2, key=(0,), lists={0: ("a", "b")}, refers=((1, "q", 0),)),
            "q": Table("q", 1, lists={0: ("b", "c")}, refers=((0, "r", 0),)),
            "r": Table("r", 1),
        }
        schema = Schema(*tables.values())
        kept = 0
        for size in range(5):
            for world in combinations(reference.all_rows(tables, "abc"), size):
                self.assertIs(schema.holds(list(world)), reference.keeps(tables, world), world)
                kept += schema.holds(list(world))
        self.assertGreater(kept, 20)
