"""Points 11, 13 and 24: heads of sources, and from where walks have no bound."""

import random
import unittest

from leadsever.heads import Heads, unbounded
from leadsever.servers import Server
from leadsever.tables import Table
from leadsever.words import strange_word
from plain import all_addresses, key, plain_choices, plain_head, plain_joints, plain_words, some_table

TABLE = Table([("open", ("a", "b"), ("to", ("c",), 0)), ("exact", ("c",), ("page", "p")), ("open", (), ("section", "s"))])
NOTHING = (("nothing",), ())
GONE = (("gone",), ())


def to(*front):
    return (("to",), front)


def alone(*rules):
    return [(Table(list(rules)), 0)]


def has_circle(graph):
    """Whether a graph has a circle: taking away what leads nowhere leaves something."""
    left = {vertex: set(after) for vertex, after in graph.items()}
    while True:
        ends = [vertex for vertex, after in left.items() if not after & left.keys()]
        if not ends:
            return bool(left)
        for vertex in ends:
            del left[vertex]


def plain_over(sources, head, limit=300):
    """Point 24 by trying all walks over a head: (joints, heads, bounded), or None if they are too many."""
    tables = [table for table, _ in sources]
    places = plain_joints(tables)
    joint, word = head
    start = joint if word == "$" else joint + (word,)
    back, met, graph, todo = set(), set(), {}, [start]
    while todo:
        front = todo.pop(0)
        if front in graph:
            continue
        graph[front] = []
        if len(graph) > limit or len(front) > 60:
            return None
        for answer in plain_choices(sources, front):
            if answer[0] == "to" and word != "$" and answer[1] in places:
                back.add(answer[1])
            elif answer[0] == "to":
                met.add(plain_head(answer[1], tables))
                graph[front].append(answer[1])
                todo.append(answer[1])
    return (back, met, not has_circle(graph))


def some_sources(pick):
    words = pick.choice([["a"], ["a", "b"], ["a", "b", "c"], ["aa", "b"]])
    sources = []
    for at in range(pick.randrange(1, 4)):
        table = some_table(pick, words, pick.randrange(10), longest=pick.choice([1, 2, 2, 3]),
                           ends=pick.choice([0, 1, 2]), days=(0, 1, 5, 9))
        sources.append((table, pick.choice([0, 1, 3, 5, 9, 10]) if at else 0))
    return sources


class Listed(unittest.TestCase):
    def test_joints_and_words(self):
        heads = Heads([(TABLE, 0), (Table([("open", ("d", "e"), ("to", ("f",), 0))]), 7)])
        self.assertEqual(heads.joints, [(), ("a",), ("c",), ("d",)])
        self.assertEqual(heads.words, ["a", "aa", "b", "c", "d", "e", "f"])
        self.assertEqual(Heads([(Table([("open", ("b",), ("gone",))]), 0)]).words, ["a", "b"])

    def test_no_rules(self):
        heads = Heads([(Table(), 0)])
        self.assertEqual((heads.joints, heads.words, heads.heads()), ([()], ["a"], [((), "a"), ((), "$")]))
        for head in heads.heads():
            self.assertEqual(heads.answers(head), [NOTHING])
            self.assertEqual((heads.back(head), heads.met(head), heads.is_bounded(head)), ([], [], True))
        self.assertEqual(heads.head(("zz", "y")), ((), "a"))

    def test_names_are_no_words_of_rules(self):
        heads = Heads(alone(("exact", (), ("page", "a")), ("open", (), ("section", "b"))))
        self.assertEqual((heads.words, heads.heads()), (["a"], [((), "a"), ((), "$")]))

    def test_heads(self):
        due = [((), "aa"), ((), "b"), ((), "$"), (("a",), "a"), (("a",), "aa"), (("a",), "b"), (("a",), "c"), (("a",), "$"),
               (("c",), "a"), (("c",), "aa"), (("c",), "b"), (("c",), "c"), (("c",), "$")]
        self.assertEqual(Heads([(TABLE, 0)]).heads(), due)

    def test_head(self):
        heads = Heads([(TABLE, 0)])
        for address, due in (((), ((), "$")), (("a",), (("a",), "$")), (("b",), ((), "b")), (("a", "b"), (("a",), "b")),
                             (("a", "b", "c"), (("a",), "b")), (("c",), (("c",), "$")), (("c", "c", "x"), (("c",), "c")),
                             (("x", "a"), ((), "aa")), (("a", "zz"), (("a",), "aa")), (("aa",), ((), "aa")),
                             (("a",) * 5000, (("a",), "a"))):
            self.assertEqual(heads.head(address), due)
            self.assertEqual(heads.head(list(address)), due)
            self.assertEqual(heads.head(address=address), due)

    def test_heads_of_all_addresses(self):
        pick = random.Random(12)
        for _ in range(60):
            sources = some_sources(pick)
            tables = [table for table, _ in sources]
            heads = Heads(sources)
            words = sorted(plain_words(tables) | {strange_word(sorted(plain_words(tables)))})
            self.assertEqual(heads.joints, sorted(plain_joints(tables), key=key))
            self.assertEqual(heads.words, words)
            found = set()
            for address in all_addresses(words, 4):
                self.assertEqual(heads.head(address), plain_head(address, tables))
                found.add(plain_head(address, tables))
            order = {word: at for at, word in enumerate([*words, "$"])}
            due = sorted(found, key=lambda head: (key(head[0]), order[head[1]]))
            self.assertEqual(heads.heads(), due)

    def test_what_is_returned_is_the_callers(self):
        sources = [(TABLE, 0)]
        heads = Heads(sources=sources)
        first = heads.heads()[0]
        before = [heads.joints, heads.words, heads.heads(), heads.answers(first), heads.back(first), heads.met(first)]
        for found in (heads.joints, heads.words, heads.heads(), heads.answers(first), heads.back(first), heads.met(first)):
            found.append("x")
        self.assertEqual([heads.joints, heads.words, heads.heads(), heads.answers(first), heads.back(first),
                          heads.met(first)], before)
        self.assertEqual(sources, [(TABLE, 0)])
        sources.append((Table([("open", ("z", "z"), ("gone",))]), 1))
        self.assertEqual(heads.joints, before[0])
        for name in ("joints", "words"):
            with self.assertRaises(AttributeError):
                setattr(heads, name, [])

    def test_lists(self):
        heads = Heads([[TABLE, 0], [TABLE, 3]])
        self.assertEqual(heads.heads(), Heads(((TABLE, 0), (TABLE, 3))).heads())
        self.assertEqual(heads.answers([["a"], "b"]), [to("c")])
        self.assertEqual(heads.back([["a"], "b"]), [("c",)])
        self.assertEqual(heads.met([["a"], "b"]), [])
        self.assertIs(heads.is_bounded([["a"], "b"]), True)


class Answers(unittest.TestCase):
    def test_kinds_and_fronts(self):
        heads = Heads([(TABLE.with_rule(("open", ("d",), ("gone",))), 0)])
        for head, due in (((("c",), "$"), (("page", "p"), ())), (((), "d"), GONE), ((("a",), "b"), to("c")),
                          (((), "$"), (("section", "s"), ())), ((("a",), "$"), (("section", "s"), ("a",))),
                          ((("a",), "c"), (("section", "s"), ("a", "c"))), ((("c",), "d"), (("section", "s"), ("c", "d")))):
            self.assertEqual(heads.answers(head), [due])
            self.assertEqual(heads.answers(head=head), [due])

    def test_the_words_behind_the_place(self):
        heads = Heads(alone(("open", ("a",), ("to", ("b", "b"), 4)), ("open", ("a", "c", "d"), ("gone",))))
        self.assertEqual(heads.answers((("a",), "$")), [to("b", "b")])
        self.assertEqual(heads.answers((("a",), "d")), [to("b", "b", "d")])
        self.assertEqual(heads.answers((("a", "c"), "$")), [to("b", "b", "c")])
        self.assertEqual(heads.answers((("a", "c"), "b")), [to("b", "b", "c", "b")])
        self.assertEqual(heads.answers((("a", "c"), "d")), [GONE])

    def test_which_are_allowed(self):
        def rule(days, target="t"):
            return Table([("open", ("x",), ("to", (target,), days))])
        head = ((), "x")
        for days, age, due in ((0, 0, []), (0, 1, []), (1, 0, [to("t")]), (1, 1, [to("t")]), (1, 2, []), (9, 9, [to("t")]),
                               (9, 10, []), (10000, 10000, [to("t")]), (10000, 10001, [])):
            self.assertEqual(Heads([(Table(), 0), (rule(days), age)]).answers(head), [NOTHING, *due])
        for days in (0, 1, 10000):
            self.assertEqual(Heads([(rule(days), 0)]).answers(head), [to("t")])

    def test_ends_of_other_tables_are_not_allowed(self):
        others = [Table([("open", ("x",), answer)]) for answer in (("gone",), ("section", "s"))]
        for other in others:
            self.assertEqual(Heads([(Table(), 0), (other, 1)]).answers(((), "x")), [NOTHING])
            self.assertEqual(Heads([(other, 0), (Table(), 1)]).answers(((), "x")),
                             [GONE] if other == others[0] else [(("section", "s"), ())])

    def test_by_the_sources_and_each_once(self):
        tables = [Table([("open", ("x",), ("to", (word,), 9))]) for word in "cabac"]
        sources = [(table, at) for at, table in enumerate(tables)]
        self.assertEqual(Heads(sources).answers(((), "x")), [to("c"), to("a"), to("b")])
        self.assertEqual(Heads([(tables[2], 0), *sources[1:]]).answers(((), "x")), [to("b"), to("a"), to("c")])
        # Days are not told, so redirects that differ in them alone are the same.
        self.assertEqual(Heads([(tables[0], 0), (Table([("open", ("x",), ("to", ("c",), 5))]), 1)]).answers(((), "x")),
                         [to("c")])

    def test_against_the_plain_words(self):
        pick = random.Random(13)
        for _ in range(80):
            sources = some_sources(pick)
            heads = Heads(sources)
            for joint, word in heads.heads():
                due = []
                for answer in plain_choices(sources, joint if word == "$" else joint + (word,)):
                    row = (answer, ())
                    if answer[0] == "section":
                        row = (answer[:2], answer[2])
                    if answer[0] == "to":
                        row = (("to",), answer[1])
                    if row not in due:
                        due.append(row)
                self.assertEqual(heads.answers((joint, word)), due)


class Over(unittest.TestCase):
    def check(self, sources, head, back, met, bounded):
        heads = Heads(sources)
        self.assertEqual(heads.back(head), back)
        self.assertEqual(heads.met(head), met)
        self.assertIs(heads.is_bounded(head), bounded)
        self.assertEqual((heads.back(head=head), heads.met(head=head), heads.is_bounded(head=head)), (back, met, bounded))

    def test_ends(self):
        self.check([(TABLE, 0)], ((), "aa"), [], [], True)
        self.check([(TABLE, 0)], (("c",), "$"), [], [], True)

    def test_each_may_be_asked_first(self):
        self.assertEqual(Heads([(TABLE, 0)]).back((("a",), "b")), [("c",)])
        self.assertEqual(Heads(alone(("open", ("a",), ("to", ("b",), 0)))).met(((), "a")), [((), "b")])
        self.assertIs(Heads(alone(("open", ("a",), ("to", ("a",), 0)))).is_bounded(((), "a")), False)

    def test_coming_back(self):
        self.check([(TABLE, 0)], (("a",), "b"), [("c",)], [], True)
        self.check(alone(("open", ("a",), ("to", (), 0))), ((), "a"), [()], [], True)

    def test_coming_back_behind_other_heads(self):
        rules = [("open", ("c",), ("to", ("b", "b"), 0)), ("open", ("b",), ("to", ("a", "a"), 0)),
                 ("open", ("a",), ("to", (), 0))]
        self.check(alone(*rules), ((), "c"), [()], [((), "a"), ((), "b")], True)
        self.check(alone(*rules), ((), "b"), [()], [((), "a")], True)
        self.check(alone(*rules), ((), "$"), [], [], True)

    def test_several_tables(self):
        sources = [(Table([("open", ("a",), ("to", (), 0)), ("exact", ("b", "c"), ("gone",))]), 0),
                   (Table([("open", ("a",), ("to", ("b",), 5))]), 5), (Table([("open", ("a",), ("to", ("d",), 5))]), 6)]
        self.check(sources, ((), "a"), [(), ("b",)], [], True)

    def test_an_address_that_ends_with_its_joint(self):
        rules = [("exact", ("a",), ("to", ("b", "b"), 0)), ("open", ("b",), ("to", (), 0)), ("exact", (), ("page", "p"))]
        self.check(alone(*rules), (("a",), "$"), [], [((), "b"), ((), "$")], True)
        self.check(alone(*rules), (("a",), "b"), [], [], True)

    def test_without_a_bound(self):
        self.check(alone(("open", ("b",), ("to", ("b", "a"), 0))), ((), "b"), [], [((), "b")], False)
        self.check(alone(("exact", (), ("to", (), 0))), ((), "$"), [], [((), "$")], False)
        self.check(alone(("open", (), ("to", (), 0))), ((), "a"), [], [((), "a")], False)

    def test_a_bound_although_other_walks_have_none(self):
        rules = [("open", ("a",), ("to", ("b",), 0)), ("open", ("b",), ("to", ("b",), 0)), ("open", ("c",), ("to", (), 0))]
        self.check(alone(*rules), ((), "a"), [], [((), "b")], False)
        self.check(alone(*rules), ((), "c"), [()], [], True)

    def test_the_strange_word(self):
        # Whatever has no rule goes behind 'b', where all but 'c' falls to the rule of 'b'.
        rules = [("open", (), ("to", ("b",), 0)), ("open", ("b",), ("to", ("c",), 0)), ("open", ("b", "c"), ("gone",)),
                 ("open", ("c",), ("gone",))]
        self.check(alone(*rules), ((), "a"), [], [((), "c"), (("b",), "a")], True)

    def test_a_round_by_several_tables(self):
        sources = [(Table([("exact", ("x",), ("page", "p")), ("exact", ("y",), ("to", ("x",), 0))]), 0),
                   (Table([("exact", ("x",), ("to", ("y",), 30)), ("exact", ("y",), ("page", "p"))]), 30)]
        self.check(sources, (("x",), "$"), [], [(("x",), "$"), (("y",), "$")], False)
        self.check([sources[0], (sources[1][0], 31)], (("x",), "$"), [], [], True)
        self.check([sources[0], (sources[1][0], 31)], (("y",), "$"), [], [(("x",), "$")], True)

    def test_against_trying_all_walks(self):
        pick = random.Random(14)
        seen = set()
        for _ in range(250):
            sources = some_sources(pick)
            heads = Heads(sources)
            for head in heads.heads():
                due = plain_over(sources, head)
                if due is not None:
                    back, met, bounded = due
                    self.assertEqual(heads.back(head), sorted(back, key=key))
                    self.assertEqual(heads.met(head), [each for each in heads.heads() if each in met])
                    self.assertIs(heads.is_bounded(head), bounded)
                    seen.add((len(back), len(met), bounded))
                elif len(heads.heads()) < 12:
                    self.assertIs(heads.is_bounded(head), False)
        self.assertGreater(len(seen), 30)


class Unbounded(unittest.TestCase):
    def test_examples(self):
        table = Table([("open", ("c",), ("to", ("b", "b"), 0)), ("open", ("b",), ("to", ("a", "a"), 0)),
                       ("open", ("a",), ("to", (), 0))])
        self.assertIsNone(unbounded([(table, 0)]))
        self.assertEqual(unbounded([(Table([("open", ("b",), ("to", ("b", "a"), 0))]), 0)]), ("b",))

    def test_least(self):
        for rules, due in (([], None), ([("exact", (), ("to", (), 0))], ()), ([("open", (), ("to", (), 10000))], ()),
                           ([("open", ("b",), ("to", ("b",), 0)), ("open", ("aa",), ("to", ("aa",), 0))], ("aa",)),
                           ([("exact", ("b", "c"), ("to", ("b", "c"), 0))], ("b", "c")),
                           ([("open", (), ("to", ("b",), 0)), ("open", ("b",), ("to", ("b", "b"), 1))], ()),
                           ([("exact", (), ("gone",)), ("open", (), ("to", (), 0))], ("a",)),
                           ([("exact", (), ("gone",)), ("open", (), ("to", (), 0)), ("open", ("a",), ("gone",))], ("aa",))):
            self.assertEqual(unbounded([(Table(rules), 0)]), due)
            self.assertEqual(unbounded(sources=((Table(rules), 0),)), due)

    def test_an_address_of_many_words(self):
        place = ("d", "c", "b", "a")
        for size in range(5):
            rules = [("open", place[:size], ("to", place[:size], 0))]
            self.assertEqual(unbounded(alone(*rules)), place[:size])
            rules.append(("exact", place[:size], ("gone",)))
            self.assertEqual(unbounded(alone(*rules)), (*place[:size], "a"))
            if size < 4:
                rules.append(("open", (*place[:size], "a"), ("gone",)))
                self.assertEqual(unbounded(alone(*rules)), (*place[:size], "aa"))

    def test_words_that_are_read_one_after_the_other(self):
        rules = [("open", ("a",), ("to", ("b",), 0)), ("open", ("b", "a"), ("to", ("c",), 0)),
                 ("open", ("c", "a"), ("to", ("d",), 0))]
        self.assertIsNone(unbounded(alone(*rules)))
        self.assertEqual(unbounded(alone(*rules, ("open", ("d", "a"), ("to", ("a", "a", "a", "a"), 0)))), ("d", "a"))
        self.assertEqual(unbounded(alone(*rules, ("exact", ("d",), ("to", ("a", "a", "a"), 0)))), ("d",))
        self.assertEqual(unbounded(alone(*rules, ("open", (), ("to", ("a",), 0)))), ())

    def test_a_word_only_behind_others(self):
        rules = [("open", ("b",), ("to", (), 0)), ("open", ("a",), ("to", ("b", "c"), 0)),
                 ("open", ("c", "d"), ("to", ("a", "d"), 0))]
        self.assertEqual(unbounded(alone(*rules)), ("a", "d"))

    def test_a_server(self):
        server = Server()
        server.set_table(2, Table([("exact", ("x",), ("to", ("y",), 30)), ("exact", ("y",), ("page", "p"))]))
        server.set_table(5, Table([("exact", ("x",), ("page", "p")), ("exact", ("y",), ("to", ("x",), 0))]))
        for day, due in ((0, None), (2, None), (4, None), (5, ("x",)), (34, ("x",)), (35, None), (1000000, None)):
            self.assertEqual(unbounded(server.sources(day)), due)

    def test_against_trying_all_walks(self):
        pick = random.Random(15)
        seen = set()
        for _ in range(150):
            sources = some_sources(pick)
            found = unbounded(sources)
            words = plain_words([table for table, _ in sources])
            for address in all_addresses([*words, strange_word(sorted(words))], 3):
                if found is not None and key(address) > key(found):
                    break
                graph, todo = {}, [address]
                while todo and len(graph) < 400 and len(todo[-1]) < 60:
                    front = todo.pop()
                    if front not in graph:
                        graph[front] = [answer[1] for answer in plain_choices(sources, front) if answer[0] == "to"]
                        todo.extend(graph[front])
                self.assertIs(bool(todo) or has_circle(graph), address == found)
            seen.add(found)
        self.assertGreater(len(seen), 8)


if __name__ == "__main__":
    unittest.main()
