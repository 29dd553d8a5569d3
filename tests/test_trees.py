"""Point 13, as far as it is about tables: joints, words_of, turning, turns."""

import copy
import random
import unittest

from leadsever.tables import Table
from leadsever.trees import joints, turning, turns, words_of
from plain import all_addresses, key, plain_joints, plain_words, some_table

TABLES = [Table([("open", ("a", "b"), ("gone",)), ("exact", ("c",), ("gone",))])]


class Joints(unittest.TestCase):
    def test_example(self):
        self.assertEqual([joints(TABLES), turning(("a", "x", "y"), TABLES)], [[(), ("a",), ("c",)], ("a", "x")])

    def test_no_tables_and_no_rules(self):
        for tables in ([], (), [Table()], [Table(), Table()]):
            self.assertEqual(joints(tables), [()])

    def test_the_place_itself(self):
        self.assertEqual(joints([Table([("open", (), ("gone",))])]), [()])
        self.assertEqual(joints([Table([("exact", (), ("gone",))])]), [()])
        self.assertEqual(joints([Table([("open", ("a",), ("gone",))])]), [()])
        self.assertEqual(joints([Table([("exact", ("a",), ("gone",))])]), [(), ("a",)])

    def test_exact_beside_open(self):
        rules = [("open", ("a", "b"), ("gone",)), ("exact", ("a", "b"), ("gone",))]
        self.assertEqual(joints([Table(rules)]), [(), ("a",), ("a", "b")])
        self.assertEqual(joints([Table(rules[:1]), Table(rules[1:])]), [(), ("a",), ("a", "b")])

    def test_the_place_of_one_rule_within_that_of_another_one(self):
        rules = [("open", ("a",), ("gone",)), ("open", ("a", "b"), ("gone",))]
        self.assertEqual(joints([Table(rules)]), [(), ("a",)])

    def test_places_of_4_words(self):
        place = ("a", "b", "c", "d")
        self.assertEqual(joints([Table([("open", place, ("gone",))])]), [place[:size] for size in range(4)])
        self.assertEqual(joints([Table([("exact", place, ("gone",))])]), [place[:size] for size in range(5)])

    def test_targets_do_not_count(self):
        self.assertEqual(joints([Table([("exact", ("a",), ("to", ("b", "c"), 3))])]), [(), ("a",)])

    def test_order(self):
        places = [("b",), ("aa",), ("z", "a"), ("a", "a")]
        tables = [Table([("exact", place, ("gone",))]) for place in places]
        self.assertEqual(joints(tables), [(), ("a",), ("aa",), ("b",), ("z",), ("a", "a"), ("z", "a")])
        self.assertEqual(joints(tuple(tables[::-1])), joints(tables))

    def test_by_name_and_new(self):
        self.assertEqual(joints(tables=TABLES), [(), ("a",), ("c",)])
        joints(TABLES).append("x")
        self.assertEqual(joints(TABLES), [(), ("a",), ("c",)])


class Words(unittest.TestCase):
    def test_places_and_targets(self):
        first = Table([("open", ("b", "c"), ("to", ("a", "b"), 1)), ("exact", ("x",), ("page", "p"))])
        second = Table([("open", ("d",), ("section", "s")), ("open", ("aa",), ("gone",))])
        self.assertEqual(words_of([first]), ["a", "b", "c", "x"])
        self.assertEqual(words_of([first, second]), ["a", "aa", "b", "c", "d", "x"])
        self.assertEqual(words_of(tables=(second, first)), ["a", "aa", "b", "c", "d", "x"])

    def test_nothing(self):
        for tables in ([], [Table()], [Table([("open", (), ("to", (), 0)), ("exact", (), ("page", "p"))])]):
            self.assertEqual(words_of(tables), [])


class Turning(unittest.TestCase):
    def test_beginnings(self):
        for address, due in (((), None), (("a",), None), (("c",), None), (("b",), ("b",)), (("x",), ("x",)),
                             (("a", "b"), ("a", "b")), (("a", "b", "c"), ("a", "b")), (("c", "a"), ("c", "a")),
                             (("b", "a"), ("b",)), (("c", "x", "y", "z"), ("c", "x"))):
            self.assertEqual(turning(address, TABLES), due)
            self.assertEqual(turning(list(address), TABLES), due)
            self.assertEqual(turning(tables=TABLES, address=address), due)

    def test_no_tables(self):
        for tables in ([], [Table()]):
            self.assertIsNone(turning((), tables))
            self.assertEqual(turning(("a", "b"), tables), ("a",))

    def test_long_addresses(self):
        table = Table([("exact", ("a", "a", "a", "a"), ("gone",))])
        self.assertIsNone(turning(("a",) * 4, [table]))
        self.assertEqual(turning(("a",) * 5, [table]), ("a",) * 5)
        self.assertEqual(turning(("a",) * 5000, [table]), ("a",) * 5)
        self.assertEqual(turning(("a", "b") * 2500, [table]), ("a", "b"))

    def test_it_is_new(self):
        address = ("c", "a")
        self.assertIsNot(turning(address, TABLES), address)
        self.assertIsInstance(turning(list(address), TABLES), tuple)


class Turns(unittest.TestCase):
    def test_in_sequence(self):
        tables = [Table([("open", ("a",), ("to", ("b",), 3))]), Table(), Table([("exact", ("a", "c"), ("gone",))]),
                  Table([("open", (), ("section", "s"))])]
        due = [("to", ("b", "c"), 3), ("nothing",), ("gone",), ("section", "s", ("a", "c"))]
        self.assertEqual(turns(("a", "c"), tables), due)
        self.assertEqual(turns(tables=tuple(tables[::-1]), address=["a", "c"]), due[::-1])
        self.assertEqual(turns(("a", "c"), []), [])

    def test_they_hang_on_the_turning(self):
        pick = random.Random(3)
        for _ in range(60):
            tables = [some_table(pick, "ab", 4) for _ in range(2)]
            for address in all_addresses("abx", 3):
                turn = turning(address, tables)
                if turn is not None:
                    rest = address[len(turn):]
                    for short, whole in zip(turns(turn, tables), turns(address, tables)):
                        if short[0] == "to":
                            short = ("to", short[1] + rest, short[2])
                        elif short[0] == "section":
                            short = ("section", short[1], short[2] + rest)
                        self.assertEqual(short, whole)


class Chance(unittest.TestCase):
    def test_against_the_plain_words(self):
        pick = random.Random(4)
        for _ in range(200):
            tables = [some_table(pick, "abc", pick.randrange(7), longest=3) for _ in range(pick.randrange(4))]
            before = copy.copy(tables)
            places = plain_joints(tables)
            self.assertEqual(joints(tables), sorted(places, key=key))
            self.assertEqual(words_of(tables), sorted(plain_words(tables)))
            for address in all_addresses("abx", 3):
                due = [address[:size] for size in range(len(address) + 1) if address[:size] not in places]
                self.assertEqual(turning(address, tables), due[0] if due else None)
            self.assertEqual(tables, before)


if __name__ == "__main__":
    unittest.main()
