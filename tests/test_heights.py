"""Point 25: height papers."""

import copy
import random
import unittest

from leadsever.heads import Heads
from leadsever.heights import height_paper, is_height_paper
from leadsever.servers import Server
from leadsever.tables import Table
from plain import key, plain_choices, plain_joints, plain_words
from test_heads import some_sources
from test_rules import ANY_VALUES

CHAIN = [(Table([("open", ("c",), ("to", ("b", "b"), 0)), ("open", ("b",), ("to", ("a", "a"), 0)),
                 ("open", ("a",), ("to", (), 0))]), 0)]
# The strange word is 'aa' here.
CHAIN_PAPER = ({((), "a"): 0, ((), "aa"): 0, ((), "b"): 1, ((), "c"): 2, ((), "$"): 0},
               {((), "a"): [()], ((), "aa"): [], ((), "b"): [()], ((), "c"): [()], ((), "$"): []})
SEVERAL = [(Table([("exact", ("a",), ("to", ("b",), 0)), ("open", ("b",), ("to", ("d", "a"), 0)),
                   ("exact", (), ("page", "p")), ("open", ("a", "c"), ("to", ("d",), 0))]), 0),
           (Table([("open", ("d",), ("to", ("c",), 5))]), 5), (Table([("open", ("c",), ("to", ("b",), 5))]), 6)]


def plain_is_right(sources, value):
    """Point 25 word by word, for any value."""
    tables = [table for table, _ in sources]
    places = plain_joints(tables)
    heads = Heads(sources).heads()
    if type(value) is not tuple or len(value) != 2 or not all(type(part) is dict for part in value):
        return False
    heights, backs = value
    if set(heights) != set(heads) or set(backs) != set(heads):
        return False
    for head in heads:
        if type(heights[head]) is not int or heights[head] < 0 or type(backs[head]) is not list:
            return False
        if any(type(joint) is not tuple or joint not in list(places) for joint in backs[head]):
            return False
        if backs[head] != sorted(set(backs[head]), key=key) or (head[1] == "$" and backs[head] != []):
            return False
    return all(plain_head_is_right(sources, head, value, places) for head in heads)


def plain_head_is_right(sources, head, value, places):
    heights, backs = value
    joint, word = head
    strange = Heads(sources).head(("zzzz",))[1] if ((), "zzzz") not in heights else "zzzz"
    words = plain_words([table for table, _ in sources])
    for answer in plain_choices(sources, joint if word == "$" else joint + (word,)):
        if answer[0] != "to":
            continue
        come = {()}
        for part in answer[1]:
            after = set()
            for place in come:
                if place + (part,) in places:
                    after.add(place + (part,))
                else:
                    met = (place, part if part in words else strange)
                    if heights[met] >= heights[head]:
                        return False
                    after.update(backs[met])
            come = after
        if word == "$":
            if any(heights[place, "$"] >= heights[head] for place in come):
                return False
        elif not come <= set(backs[head]):
            return False
    return True


def changed_papers(pick, paper, many):
    """Papers with one part changed."""
    for _ in range(many):
        heights, backs = copy.deepcopy(paper)
        head = pick.choice(list(heights))
        what = pick.randrange(9)
        if what == 0:
            heights[head] += pick.choice([-1, 1, -2, 10 ** 30])
        elif what == 1:
            heights[head] = pick.choice([0, max(heights.values()), -1, True, False, None, "0", [0]])
        elif what == 2 and backs[head]:
            backs[head].pop(pick.randrange(len(backs[head])))
        elif what == 3:
            backs[head] = sorted({*backs[head], pick.choice([joint for joint, _ in heights])}, key=key)
        elif what == 4:
            backs[head] = pick.choice([backs[head] * 2, backs[head][::-1], tuple(backs[head]), None, [*backs[head], ("q", "q")],
                                       [list(joint) for joint in backs[head]], [["a"]], [(["a"],)], [("a", 1)], {}])
        elif what == 5:
            del pick.choice([heights, backs])[head]
        elif what == 6:
            pick.choice([heights, backs])[pick.choice([((), "q"), ("q", "q"), (), "q", ((), ())])] = pick.choice([0, []])
        elif what == 7:
            other = pick.choice(list(heights))
            heights[head], heights[other] = heights[other], heights[head]
        else:
            other = pick.choice(list(backs))
            backs[head], backs[other] = backs[other], backs[head]
        yield (heights, backs)


class Papers(unittest.TestCase):
    def wrong(self, sources, value):
        self.assertIs(is_height_paper(sources, value), False)

    def test_example(self):
        self.assertIs(height_paper([(Table([("open", ("a",), ("to", ("a", "b"), 0))]), 0)]) is None, True)

    def test_right_papers(self):
        for sources in (CHAIN, SEVERAL, [(Table(), 0)]):
            self.assertIs(is_height_paper(sources, height_paper(sources)), True)
        self.assertIs(is_height_paper(CHAIN, CHAIN_PAPER), True)
        self.assertIs(is_height_paper(value=CHAIN_PAPER, sources=tuple(CHAIN)), True)

    def test_without_a_bound(self):
        for rules in ([("open", ("a",), ("to", ("a",), 0))], [("exact", (), ("to", (), 1))], [("open", (), ("to", (), 0))],
                      [("open", ("a",), ("to", ("b",), 5)), ("open", ("b",), ("to", ("c", "a"), 0)),
                       ("open", ("c",), ("to", (), 0))]):
            sources = [(Table(rules), 0)]
            self.assertIsNone(height_paper(sources=sources))
            heads = Heads(sources).heads()
            for height in (0, 10 ** 50):
                self.wrong(sources, ({head: height for head in heads}, {head: [] for head in heads}))
            self.wrong(sources, ({head: at for at, head in enumerate(heads)}, {head: [] for head in heads}))

    def test_a_server(self):
        server = Server()
        server.set_table(2, Table([("exact", ("x",), ("to", ("y",), 30)), ("exact", ("y",), ("page", "p"))]))
        server.set_table(5, Table([("exact", ("x",), ("page", "p")), ("exact", ("y",), ("to", ("x",), 0))]))
        for day in (0, 2, 4, 35, 99):
            self.assertIs(is_height_paper(server.sources(day), height_paper(server.sources(day))), True)
        for day in (5, 34):
            self.assertIsNone(height_paper(server.sources(day)))

    def test_the_paper_has_all_heads(self):
        heights, backs = height_paper(CHAIN)
        self.assertIsInstance(height_paper(CHAIN), tuple)
        self.assertEqual(set(heights), set(CHAIN_PAPER[0]))
        self.assertEqual(set(backs), set(CHAIN_PAPER[0]))

    def test_the_sequence_of_the_keys(self):
        turned = tuple({head: part[head] for head in list(part)[::-1]} for part in CHAIN_PAPER)
        self.assertIs(is_height_paper(CHAIN, turned), True)

    def test_heights(self):
        for head, height, due in ((((), "c"), 1, False), (((), "c"), 3, True), (((), "c"), 10 ** 59, True),
                                  (((), "b"), 0, False), (((), "b"), 2, False), (((), "aa"), 7, True),
                                  (((), "$"), 5, True), (((), "a"), 1, False), (((), "a"), -1, False)):
            self.assertIs(is_height_paper(CHAIN, ({**CHAIN_PAPER[0], head: height}, CHAIN_PAPER[1])), due)

    def test_heights_of_what_is_read_behind_an_address(self):
        rules = [("exact", ("a",), ("to", ("b",), 0)), ("exact", ("b",), ("page", "p"))]
        sources = [(Table(rules), 0)]
        heads = Heads(sources).heads()
        backs = {head: [] for head in heads}
        flat = {head: 0 for head in heads}
        self.wrong(sources, (flat, backs))
        self.assertIs(is_height_paper(sources, ({**flat, (("a",), "$"): 1}, backs)), True)
        self.wrong(sources, ({**flat, (("a",), "$"): 1, (("b",), "$"): 1}, backs))
        self.wrong(sources, ({**flat, (("a",), "$"): 1}, {**backs, (("a",), "$"): [()]}))

    def test_backs(self):
        heights, backs = CHAIN_PAPER
        self.wrong(CHAIN, (heights, {**backs, ((), "a"): []}))
        # The joints are (), so more backs of what meets nothing else do no harm.
        self.assertIs(is_height_paper(CHAIN, (heights, {**backs, ((), "aa"): [()]})), True)
        self.wrong(CHAIN, (heights, {**backs, ((), "b"): []}))
        self.wrong(CHAIN, (heights, {**backs, ((), "$"): [()]}))

    def test_more_backs_than_there_are(self):
        # What comes back to more joints meets more heads, and these then must have less height, too.
        rules = [("open", ("a",), ("to", ("b", "c"), 0)), ("open", ("c",), ("gone",)), ("exact", ("d",), ("gone",)),
                 ("open", ("d", "c"), ("to", ("e",), 0)), ("open", ("b",), ("to", (), 0)), ("open", ("e",), ("gone",))]
        sources = [(Table(rules), 0)]
        heights, backs = height_paper(sources)
        self.assertEqual(backs[(), "b"], [()])
        low = {**{head: 0 for head in heights}, ((), "a"): 1, (("d",), "c"): 1}
        self.assertIs(is_height_paper(sources, (low, backs)), True)
        self.wrong(sources, (low, {**backs, ((), "b"): [(), ("d",)]}))
        self.assertIs(is_height_paper(sources, ({**low, ((), "a"): 2}, {**backs, ((), "b"): [(), ("d",)]})), True)

    def test_all_sources_count(self):
        first = (Table([("open", ("b",), ("gone",))]), 0)
        other = Table([("open", ("a",), ("to", ("b",), 5))])
        for age, due in ((5, False), (6, True), (0, False)):
            sources = [first, (other, age)]
            heads = Heads(sources).heads()
            flat = ({head: 0 for head in heads}, {head: [] for head in heads})
            self.assertIs(is_height_paper(sources, flat), due)
            self.assertIs(is_height_paper(sources, height_paper(sources)), True)

    def test_any_values(self):
        heights, backs = CHAIN_PAPER
        wrong = [(), (heights,), (heights, backs, {}), [heights, backs], (backs, heights), (heights, heights), (backs, backs),
                 ({}, {}), (heights, {}), ({}, backs), (list(heights), backs), (heights, list(backs)), (heights, None),
                 (list(heights.items()), list(backs.items()))]
        for value in (*ANY_VALUES, *wrong):
            self.wrong(CHAIN, value)
            self.wrong([(Table(), 0)], value)
            self.wrong(CHAIN, (heights, value))
            self.wrong(CHAIN, (value, backs))
            self.wrong(CHAIN, (heights, {**backs, ((), "a"): value}))
            self.wrong(CHAIN, (heights, {**backs, ((), "a"): [value]} if value != () else {}))
            if isinstance(value, bool) or not isinstance(value, int) or value < 0:
                self.wrong(CHAIN, ({**heights, ((), "a"): value}, backs))
        self.wrong(CHAIN, ({**heights, ((), "a"): False}, backs))
        self.wrong(CHAIN, ({**heights, ((), "aa"): True}, backs))

    def test_the_form_of_backs(self):
        rules = [("open", ("a",), ("to", ("d",), 0)), ("exact", ("d",), ("gone",)), ("open", ("b",), ("to", (), 0))]
        sources = [(Table(rules), 0)]
        heights, backs = height_paper(sources)
        self.assertEqual(backs[(), "a"], [("d",)])
        self.assertIs(is_height_paper(sources, (heights, {**backs, ((), "a"): [(), ("d",)]})), True)
        for value in ([("d",), ()], [("d",), ("d",)], (("d",),), [["d"]], [("d",), ("e",)], [("d", "d")], [("a",), ("d",)],
                      {("d",): 1}, ["d"], [(("d",),)], [("d",), None], None, "d", [(["d"],)]):
            self.wrong(sources, (heights, {**backs, ((), "a"): value}))

    def test_keys(self):
        heights, backs = CHAIN_PAPER
        for head in list(heights):
            fewer = {each: height for each, height in heights.items() if each != head}
            self.wrong(CHAIN, (fewer, backs))
            self.wrong(CHAIN, ({**fewer, ((), "zz"): heights[head]}, backs))
            fewer = {each: back for each, back in backs.items() if each != head}
            self.wrong(CHAIN, (heights, fewer))
            self.wrong(CHAIN, (heights, {**fewer, (("a",), "zz"): backs[head]}))
        self.wrong(CHAIN, ({**heights, ((), "zz"): 0}, {**backs, ((), "zz"): []}))

    def test_what_is_passed_stays_and_what_is_returned_is_the_callers(self):
        sources, paper = list(CHAIN), copy.deepcopy(CHAIN_PAPER)
        is_height_paper(sources, paper)
        self.assertEqual((sources, paper), (CHAIN, CHAIN_PAPER))
        found = height_paper(sources)
        due = copy.deepcopy(found)
        found[0].clear()
        found[1][(), "a"].append("x")
        self.assertEqual(height_paper(sources), due)
        self.assertEqual(sources, CHAIN)

    def test_against_the_plain_words(self):
        pick = random.Random(19)
        counts = {True: 0, False: 0, None: 0}
        for _ in range(120):
            sources = some_sources(pick)
            paper = height_paper(sources)
            heads = Heads(sources)
            self.assertIs(paper is None, not all(heads.is_bounded(head) for head in heads.heads()))
            if paper is None:
                counts[None] += 1
                depth = {head: pick.randrange(5) for head in heads.heads()}
                paper = (depth, {head: heads.back(head) for head in heads.heads()})
                self.wrong(sources, paper)
            else:
                self.assertIs(is_height_paper(sources, paper), True)
                self.assertIs(plain_is_right(sources, paper), True)
            for changed in changed_papers(pick, paper, 25):
                due = plain_is_right(sources, changed)
                self.assertIs(is_height_paper(sources, changed), due, changed)
                counts[due] += 1
        self.assertGreater(min(counts.values()), 20)


if __name__ == "__main__":
    unittest.main()
