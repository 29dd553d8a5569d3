"""Points 9 to 12: readers, the visits that a free walk takes, and walks that go round and round."""

import random
import unittest

from leadsever.errors import BadDay
from leadsever.readers import Reader, longer_walk, visits_for
from leadsever.safe import wrong_way
from leadsever.servers import Server
from leadsever.sites import Site
from leadsever.tables import Table
from plain import all_addresses, key
from served import BACK_AND_FORTH, FIRST, SECOND, PlainReader, exact, open_, plain_allowed, server_of, some_server, to
from test_rules import ANY_VALUES
from test_walks import LETTERS, counter

LATE = 1000000
NO_DAYS = (*[value for value in ANY_VALUES if isinstance(value, bool) or value not in (0, 1)], LATE + 1, -1, "1", (1,), [1])


class ReaderTest(unittest.TestCase):
    def refused(self, reader, day, first=0):
        """Each method refuses a day and keeps it; then the reader remembers what it did, as told from a first day on."""
        before = reader.memory(first)
        for call in (lambda: reader.ask(("x",), day), lambda: reader.memory(day), lambda: reader.follow(("x",), day)):
            with self.assertRaises(BadDay) as caught:
                call()
            self.assertIs(caught.exception.value, day)
        self.assertEqual(reader.memory(first), before)


class Ask(ReaderTest):
    def test_example(self):
        reader = Reader(BACK_AND_FORTH)
        self.assertEqual(reader.ask(("x",), 4), ("to", ("y",), 30))
        self.assertEqual(reader.follow(("x",), 5, steps=3), ([("x",), ("y",), ("x",), ("y",)], None))

    def test_what_the_server_answers(self):
        server = server_of((2, [exact("a", "page", "p"), open_("b", "section", "s"), open_("c", "gone"), open_("d", *to("e"))]))
        reader = Reader(server=server)
        for address, due in ((("a",), ("page", "p")), (("b", "x"), ("section", "s", ("x",))), (("c", "x"), ("gone",)),
                             (("d", "x"), ("to", ("e", "x"), 0)), (("x",), ("nothing",)), ((), ("nothing",))):
            self.assertEqual(reader.ask(address, 2), due)
            self.assertEqual(reader.ask(day=2, address=list(address)), due)
            self.assertEqual(Reader(server).ask(address, 1), ("nothing",))
        # Nothing of this is lasting.
        self.assertEqual(reader.memory(2), {})

    def test_a_lasting_redirect_is_remembered_up_to_its_last_day(self):
        for days in (1, 2, 30, 10000):
            server = server_of((3, [exact("x", *to("y", days))]), (4, []))
            reader = Reader(server)
            self.assertEqual(reader.ask(("x",), 3), ("to", ("y",), days))
            self.assertEqual(reader.memory(3 + days), {("x",): ("y",)})
            self.assertEqual(reader.memory(3 + days + 1), {})
            # What is remembered is told as it was told then.
            self.assertEqual(reader.ask(("x",), 3 + days), ("to", ("y",), days))
            self.assertEqual(reader.ask(("x",), 3 + days + 1), ("nothing",))

    def test_what_is_remembered_is_used_and_not_asked_again(self):
        server = server_of((0, [exact("x", *to("y", 5))]), (3, [exact("x", *to("z", 7))]), (4, [exact("x", "gone")]))
        reader = Reader(server)
        self.assertEqual(reader.ask(("x",), 2), ("to", ("y",), 5))
        self.assertEqual(reader.ask(("x",), 3), ("to", ("y",), 5))
        # It is not remembered for longer because it was used.
        self.assertEqual(reader.ask(("x",), 7), ("to", ("y",), 5))
        self.assertEqual(reader.ask(("x",), 8), ("gone",))
        reader = Reader(server)
        self.assertEqual(reader.ask(("x",), 3), ("to", ("z",), 7))
        self.assertEqual(reader.memory(10), {("x",): ("z",)})
        self.assertEqual(reader.memory(11), {})

    def test_it_is_remembered_anew_when_it_has_expired(self):
        server = server_of((0, [exact("x", *to("y", 2))]), (3, [exact("x", *to("z", 4))]))
        reader = Reader(server)
        reader.ask(("x",), 0)
        self.assertEqual(reader.ask(("x",), 2), ("to", ("y",), 2))
        self.assertEqual(reader.ask(("x",), 3), ("to", ("z",), 4))
        self.assertEqual(reader.memory(7), {("x",): ("z",)})
        self.assertEqual(reader.memory(8), {})

    def test_each_address_is_remembered_alone(self):
        reader = Reader(server_of((0, [open_("a", *to("b", 9))])))
        self.assertEqual(reader.ask(("a", "x"), 0), ("to", ("b", "x"), 9))
        reader.ask(["a", "y", "z"], 1)
        self.assertEqual(reader.memory(1), {("a", "x"): ("b", "x"), ("a", "y", "z"): ("b", "y", "z")})
        self.assertEqual(reader.memory(10), {("a", "y", "z"): ("b", "y", "z")})

    def test_forget(self):
        reader = Reader(BACK_AND_FORTH)
        reader.ask(("x",), 4)
        self.assertIsNone(reader.forget(("y",)))
        self.assertEqual(reader.memory(5), {("x",): ("y",)})
        self.assertIsNone(reader.forget(address=["x"]))
        self.assertEqual(reader.memory(5), {})
        self.assertIsNone(reader.forget(("x",)))
        self.assertEqual(reader.follow(("x",), 5), ([("x",)], ("page", "p")))
        self.assertEqual(reader.ask(("x",), 5), ("page", "p"))

    def test_days(self):
        reader = Reader(BACK_AND_FORTH)
        for day in NO_DAYS:
            self.refused(reader, day)
        reader.ask(("x",), 4)
        for day in (*NO_DAYS, 0, 3):
            self.refused(reader, day, 4)
        # What is no visit does not hinder earlier ones.
        reader.memory(LATE)
        reader.follow(("x",), LATE)
        self.assertEqual(reader.ask(("y",), 4), ("page", "p"))
        reader.ask(("y",), LATE)
        self.refused(reader, LATE - 1, LATE)
        self.assertEqual(reader.ask(("x",), LATE), ("page", "p"))

    def test_a_visit_of_any_answer_counts(self):
        reader = Reader(Server())
        reader.ask(("x",), 7)
        self.refused(reader, 6, 7)
        reader.ask((), 7)

    def test_a_server_without_tables(self):
        reader = Reader(Server())
        self.assertEqual(reader.ask((), 0), ("nothing",))
        self.assertEqual(reader.memory(0), {})
        self.assertEqual(reader.follow(("a",) * 5000, LATE), ([("a",) * 5000], ("nothing",)))

    def test_the_server_as_it_is_now(self):
        server = server_of((2, FIRST))
        reader = Reader(server)
        server.set_table(5, SECOND)
        self.assertEqual(reader.follow(("x",), 9), ([("x",), ("y",)], ("page", "p")))
        server.drop_after(0)
        self.assertEqual(reader.ask(("x",), 9), ("to", ("y",), 30))
        self.assertEqual(server, Server())

    def test_readers_share_nothing(self):
        one, two = Reader(BACK_AND_FORTH), Reader(BACK_AND_FORTH)
        one.ask(("x",), 4)
        self.assertEqual(two.memory(0), {})
        self.assertEqual(two.ask(("x",), 0), ("nothing",))

    def test_what_is_returned_is_the_callers(self):
        reader = Reader(BACK_AND_FORTH)
        reader.ask(("x",), 4)
        reader.memory(4).clear()
        reader.follow(("x",), 5)[0].clear()
        self.assertEqual(reader.memory(day=5), {("x",): ("y",)})
        self.assertIsInstance(reader.memory(5), dict)


class Follow(ReaderTest):
    def test_by_the_server_alone(self):
        reader = Reader(BACK_AND_FORTH)
        for day, due in ((1, ([("x",)], ("nothing",))), (2, ([("x",), ("y",)], ("page", "p"))), (5, ([("x",)], ("page", "p")))):
            self.assertEqual(reader.follow(("x",), day), due)
            self.assertEqual(reader.follow(day=day, address=["x"]), due)
        self.assertEqual(reader.memory(0), {})

    def test_by_what_is_remembered(self):
        server = server_of((0, [open_("a", *to("b", 9))]), (2, [open_("b", *to("c")), open_("c", "section", "s")]))
        reader = Reader(server)
        reader.ask(("a", "x"), 1)
        self.assertEqual(reader.follow(("a", "x"), 10), ([("a", "x"), ("b", "x"), ("c", "x")], ("section", "s", ("x",))))
        self.assertEqual(reader.follow(("a", "y"), 10), ([("a", "y")], ("nothing",)))
        self.assertEqual(reader.follow(("a", "x"), 11), ([("a", "x")], ("nothing",)))

    def test_nothing_is_remembered_or_forgotten(self):
        reader = Reader(server_of((0, [exact("x", *to("y", 9)), exact("y", *to("z", 9))])))
        reader.ask(("x",), 1)
        self.assertEqual(reader.follow(("x",), 30), ([("x",), ("y",), ("z",)], ("nothing",)))
        self.assertEqual(reader.memory(10), {("x",): ("y",)})

    def test_steps_just_enough_and_one_too_few(self):
        reader = Reader(server_of((0, [exact(one, *to(two)) for one, two in zip(LETTERS, LETTERS[1:])])))
        walk = [(letter,) for letter in LETTERS]
        for steps in (25, 26, 1000):
            self.assertEqual(reader.follow(("a",), 0, steps=steps), (walk, ("nothing",)))
        for steps in (0, 1, 24):
            self.assertEqual(reader.follow(("a",), 0, steps=steps), (walk[:steps + 1], None))
        self.assertEqual(reader.follow(("z",), 0, steps=0), ([("z",)], ("nothing",)))

    def test_1000_steps_unless_told(self):
        reader = Reader(server_of((0, counter(10))))
        walk, end = reader.follow(("j",), 0)
        self.assertEqual((len(walk), end), (1001, None))
        walk, end = reader.follow(("j",), 0, steps=2 ** 10 - 1)
        self.assertEqual((len(walk), end), (2 ** 10, ("nothing",)))
        self.assertEqual(len(reader.follow(("j",), 0, steps=2 ** 10 - 2)[0]), 2 ** 10 - 1)
        with self.assertRaises(TypeError):
            reader.follow(("j",), 0, 5)

    def test_against_the_plain_words(self):
        pick = random.Random(31)
        for _ in range(60):
            server = some_server(pick)
            reader, plain = Reader(server), PlainReader(server)
            day = 0
            for _ in range(12):
                address = tuple(pick.choice("abc") for _ in range(pick.randrange(3)))
                what = pick.randrange(4)
                day += pick.choice([0, 0, 1, 50])
                if what < 2:
                    self.assertEqual(reader.ask(address, day), plain.ask(address, day))
                elif what == 2:
                    reader.forget(address)
                    plain.held.pop(address, None)
                due = {each: held[0] for each, held in plain.held.items() if day <= held[1] + held[2]}
                self.assertEqual(reader.memory(day), due)
                self.assertEqual(reader.follow(address, day, steps=9), plain.follow(address, day, 9))


class Visits(unittest.TestCase):
    def check(self, server, walk, day, due):
        self.assertEqual(visits_for(server, walk, day), due)
        self.assertEqual(visits_for(day=day, walk=tuple(list(address) for address in walk), server=server), due)
        reader = Reader(server)
        for told, address in due:
            reader.ask(address, told)
        self.assertEqual(reader.follow(walk[0], day, steps=len(walk) - 1)[0], walk)

    def test_example(self):
        for day in (5, 6, 34):
            self.check(BACK_AND_FORTH, [("x",), ("y",), ("x",)], day, [(4, ("x",))])
        self.check(BACK_AND_FORTH, [("x",), ("y",)], 4, [])

    def test_no_step(self):
        self.check(BACK_AND_FORTH, [("x",)], 5, [])
        self.check(Server(), [()], 5, [])

    def test_the_latest_day(self):
        rule = exact("x", *to("y", 10))
        server = server_of((0, [rule]), (4, []), (6, [rule]), (8, []))
        for day in (8, 17):
            self.check(server, [("x",), ("y",)], day, [(7, ("x",))])
        self.check(server, [("x",), ("y",)], 5, [(3, ("x",))])

    def test_the_latest_day_on_which_it_may_still_be_remembered(self):
        server = server_of((0, [exact("x", *to("y", 100))]), (4, [exact("x", *to("y", 2))]), (6, [exact("x", *to("y"))]), (8, []))
        self.check(server, [("x",), ("y",)], 8, [(3, ("x",))])
        self.check(server, [("x",), ("y",)], 103, [(3, ("x",))])
        server = server_of((0, [exact("x", *to("y", 100))]), (4, [exact("x", *to("y", 2))]), (6, []))
        self.check(server, [("x",), ("y",)], 7, [(5, ("x",))])
        self.check(server, [("x",), ("y",)], 8, [(3, ("x",))])

    def test_what_the_server_still_answers(self):
        # The table in force redirects there, too, if only in passing.
        server = server_of((0, [exact("x", *to("y", 100))]), (4, [exact("x", *to("y"))]))
        self.check(server, [("x",), ("y",)], 9, [])

    def test_in_order(self):
        first = [exact("a", *to("b", 90)), exact("c", *to(("d", "d"), 90)), exact("b", *to("c", 90))]
        second = [exact(("d", "d"), *to("a", 90))]
        server = server_of((0, first), (5, second), (7, []))
        walk = [("b",), ("c",), ("d", "d"), ("a",), ("b",)]
        self.check(server, walk, 9, [(4, ("a",)), (4, ("b",)), (4, ("c",)), (6, ("d", "d"))])
        self.check(server, walk[:3], 9, [(4, ("b",)), (4, ("c",))])

    def test_shorter_addresses_first(self):
        server = server_of((0, [exact(("a", "a"), *to("b", 9)), exact("b", *to("c", 9))]), (1, []))
        self.check(server, [("a", "a"), ("b",), ("c",)], 3, [(0, ("b",)), (0, ("a", "a"))])

    def test_the_last_address_may_be_one_of_the_others(self):
        server = server_of((0, [exact("a", *to("b", 9)), exact("b", *to("a", 9))]), (1, []))
        self.check(server, [("a",), ("b",), ("a",)], 1, [(0, ("a",)), (0, ("b",))])

    def test_what_is_passed_stays_and_what_is_returned_is_the_callers(self):
        server, walk = BACK_AND_FORTH.copied(), [["x"], ["y"]]
        visits_for(server, walk, 5).clear()
        self.assertEqual((server, walk), (BACK_AND_FORTH, [["x"], ["y"]]))
        self.assertEqual(visits_for(server, walk, 5), [(4, ("x",))])

    def test_by_chance(self):
        pick = random.Random(32)
        seen = set()
        for _ in range(150):
            server = some_server(pick)
            day = pick.choice([2, 3, 60, 101, 102, 110])
            walk = [pick.choice(list(all_addresses("abc", 2)))]
            while walk[-1] not in walk[:-1] and len(walk) < 8 and plain_allowed(server, walk[-1], day):
                walk.append(pick.choice(sorted(plain_allowed(server, walk[-1], day))))
            due = []
            for before, after in zip(walk, walk[1:]):
                if server.answer(before, day)[:2] != ("to", after):
                    days = [told for told in range(day) if server.answer(before, told)[:2] == ("to", after)
                            and server.answer(before, told)[2] >= day - told]
                    due.append((max(days), before))
            due = sorted(due, key=lambda visit: (visit[0], key(visit[1])))
            self.check(server, walk, day, due)
            seen.add(len(due))
        self.assertGreaterEqual(len(seen), 4)


class Longer(unittest.TestCase):
    def check(self, server, day, way, steps, walk):
        before = repr(way)
        visits, found = longer_walk(server, day, way, steps)
        self.assertEqual(found, walk)
        self.assertEqual(visits, visits_for(server, walk, day))
        self.assertEqual(longer_walk(steps=steps, way=list(way), day=day, server=server), (visits, walk))
        self.assertEqual(repr(way), before)
        reader = Reader(server)
        for told, address in visits:
            reader.ask(address, told)
        self.assertEqual(reader.follow(walk[0], day, steps=len(walk) - 1)[0], walk)

    def test_the_same_address_again(self):
        way = wrong_way(BACK_AND_FORTH, Site(), 5)
        for steps in (0, 1, 2, 3, 1000):
            self.check(BACK_AND_FORTH, 5, way, steps, [("x",), ("y",), ("x",)])

    def test_more_and_more_words(self):
        server = server_of((0, [open_("b", *to(("b", "a")))]))
        way = (("b",), [], [("b",), ("b", "a")], (0, 1, 1))
        for steps in (0, 1):
            self.check(server, 0, way, steps, [("b",), ("b", "a")])
        for steps in (2, 3, 40):
            self.check(server, 0, way, steps, [("b",) + ("a",) * many for many in range(steps + 1)])
        self.assertEqual(len(longer_walk(server, 0, way, 1000)[1]), 1001)

    def test_other_words_behind(self):
        server = server_of((0, [open_("a", *to(("b", "c"))), open_("b", *to(("a", "d")))]))
        way = (("a", "x"), [], [("a", "x"), ("b", "c", "x"), ("a", "d", "c", "x")], (0, 2, 1))
        walk = [*way[2], ("b", "c", "d", "c", "x"), ("a", "d", "c", "d", "c", "x"), ("b", "c", "d", "c", "d", "c", "x"),
                ("a", "d", "c", "d", "c", "d", "c", "x")]
        for steps in range(8):
            self.check(server, 0, way, steps, walk[:max(steps, 2) + 1] if steps < 7 else
                       [*walk, ("b", "c") + ("d", "c") * 3 + ("x",)])

    def test_words_ahead_of_the_round(self):
        server = server_of((0, [exact("z", *to(("a", "x"))), open_("a", *to(("a", "b", "c", "d")))]))
        way = (("z",), [], [("z",), ("a", "x"), ("a", "b", "c", "d", "x")], (1, 2, 1))
        self.check(server, 0, way, 4, [*way[2], ("a",) + ("b", "c", "d") * 2 + ("x",), ("a",) + ("b", "c", "d") * 3 + ("x",)])

    def test_with_a_greater_front(self):
        # The round's front has more words than the steps look at.
        server = server_of((0, [open_("a", *to(("a", "x")))]))
        way = (("a", "x", "y"), [], [("a", "x", "y"), ("a", "x", "x", "y")], (0, 1, 2))
        self.check(server, 0, way, 3, [*way[2], ("a", "x", "x", "x", "y"), ("a",) + ("x",) * 4 + ("y",)])

    def test_what_is_remembered(self):
        server = server_of((0, [open_("a", *to(("a", "b"), 50))]), (3, []))
        way = (("a",), [(2, ("a",))], [("a",), ("a", "b")], (0, 1, 1))
        walk = [("a",) + ("b",) * many for many in range(5)]
        self.check(server, 9, way, 4, walk)
        self.assertEqual(longer_walk(server, 9, way, 4)[0], [(2, address) for address in walk[:-1]])

    def test_cut_where_an_address_comes_again(self):
        server = server_of((0, [exact("z", *to(("a", "b", "b"))), open_("a", *to(("a", "b")))]))
        # By the round of the first step no address comes again; here one that is ahead of the round does.
        way = (("a", "b"), [], [("a", "b"), ("a", "b", "b")], (0, 1, 1))
        self.check(server, 0, way, 2, [("a", "b"), ("a", "b", "b"), ("a", "b", "b", "b")])
        first = Table([open_("a", *to("c", 9)), open_("c", *to(("a", "b"), 9))])
        second = Table([exact(("c", "b", "b"), *to(("c",)))])
        server = server_of((0, first), (1, second))
        way = (("c", "b", "b"), [], [("c", "b", "b"), ("c",), ("a", "b"), ("c", "b")], (1, 3, 1))
        self.check(server, 2, way, 1000, [*way[2], ("a", "b", "b"), ("c", "b", "b")])
        self.check(server, 2, way, 4, [*way[2], ("a", "b", "b")])

    def test_what_is_returned_is_the_callers(self):
        way = (("b",), [], [("b",), ("b", "a")], (0, 1, 1))
        server = server_of((0, [open_("b", *to(("b", "a")))]))
        for part in longer_walk(server, 0, way, 0):
            part.append("x")
        self.assertEqual(way, (("b",), [], [("b",), ("b", "a")], (0, 1, 1)))

    def test_by_chance(self):
        pick = random.Random(33)
        grown = 0
        for _ in range(150):
            server = some_server(pick)
            day = pick.choice([0, 1, 2, 3, 60])
            way = wrong_way(server, Site(), day)
            if way is not None:
                i, j, size = way[3]
                steps = pick.choice([0, 5, 30])
                visits, walk = longer_walk(server, day, way, steps)
                self.assertEqual(walk[:j + 1], way[2])
                self.assertEqual(len(set(walk[:-1])), len(walk) - 1)
                self.assertTrue(len(walk) == max(steps, j) + 1 or walk[-1] in walk[:-1])
                more = way[2][j][size:len(way[2][j]) - len(way[2][i]) + size]
                rest = way[2][i][size:]
                for at in range(j, len(walk) - j + i):
                    front = walk[at][:len(walk[at]) - len(rest)]
                    self.assertEqual(walk[at + j - i][len(walk[at + j - i]) - len(rest):], rest)
                    self.assertEqual(len(walk[at + j - i]), len(front) + len(more) + len(rest))
                reader = Reader(server)
                for told, address in visits:
                    reader.ask(address, told)
                self.assertEqual(reader.follow(way[0], day, steps=len(walk) - 1)[0], walk)
                grown += len(walk) > j + 1
        self.assertGreater(grown, 15)


if __name__ == "__main__":
    unittest.main()
