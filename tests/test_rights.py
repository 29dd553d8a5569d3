"""Points 26 and 27: right papers."""

import copy
import random
import unittest

from leadsever.heads import Heads
from leadsever.heights import is_height_paper
from leadsever.heirs import claims_table
from leadsever.rights import is_right_paper, right_paper
from leadsever.safe import wrong_address
from leadsever.servers import Server
from leadsever.sites import Site
from plain import key
from served import (BACK_AND_FORTH, GONE, MOVED, PlainPaper, days_of, exact, move, open_, put, server_of, site_of, some_plan, take,
                    to)
from test_rules import ANY_VALUES

FIRST = (("at", ()), ("at", ()))
OWN = [open_("s", "section", "s"), open_("o", *to("s"))]
SITE = site_of(put(0, "section", "s", "o"), move(0, "s", "s"), put(0, "page", "p", "s", "p"), take(0, "p"))
SERVER = server_of((0, [*OWN, exact("sp", "gone")]))


def plain_is_stand(value, places):
    if type(value) is not tuple or not value:
        return False
    if value[0] == "at":
        return len(value) == 2 and type(value[1]) is tuple and value[1] in places
    return value[0] == "end" and len(value) == 3 and plain_is_end(value[1:])


def plain_is_end(value):
    if type(value) is not tuple or len(value) != 2 or type(value[0]) is not tuple or type(value[1]) is not tuple:
        return False
    kind, front = value
    if not all(type(word) is str and word.isalpha() and word.islower() for word in (*kind, *front)):
        return False
    if kind == GONE:
        return front == ()
    return len(kind) == 2 and kind[0] in ("page", "section") and (kind[0] == "section" or front == ())


def plain_is_right(server, site, day, value):
    """Point 27 for any value."""
    if type(value) is not tuple or len(value) != 4:
        return False
    table = claims_table(site.at(day))
    sources = [*server.sources(day), (table, 1)]
    if not is_height_paper(sources, value[:2]):
        return False
    heads, (_, _, ends, pairs) = Heads(sources), value
    if type(ends) is not dict or set(ends) != set(heads.heads()) or type(pairs) is not list:
        return False
    for each in ends.values():
        if each is not None and (type(each) is not list or len(each) > 1 or not all(plain_is_end(end) for end in each)):
            return False
    due_places = Heads([(table, 0)]).joints
    for pair in pairs:
        if type(pair) is not tuple or len(pair) != 2:
            return False
        if not plain_is_stand(pair[0], due_places) or not plain_is_stand(pair[1], heads.joints):
            return False
    return FIRST in pairs and PlainPaper(server, site, day, value).is_right()


def changed_papers(pick, paper, many):
    """Papers with one part changed."""
    for _ in range(many):
        heights, backs, ends, pairs = copy.deepcopy(paper)
        head, other = pick.choice(list(ends)), pick.choice(list(ends))
        what = pick.randrange(13)
        if what == 0:
            heights[head] += pick.choice([-1, 1, -2, 10 ** 30])
        elif what == 1:
            backs[head] = pick.choice([[], [()], backs[head] * 2, sorted({*backs[head], other[0]}, key=key)])
        elif what == 2:
            ends[head] = pick.choice([None, [], [(GONE, ())], [(("page", "p"), ())], [(("section", "p"), ())]])
        elif what == 3:
            ends[head], ends[other] = ends[other], ends[head]
        elif what == 4 and ends[head]:
            kind, front = ends[head][0]
            ends[head] = pick.choice([[(kind, front + ("a",))], [(kind, front[:-1])], [(front, kind)], ends[head] * 2,
                                      tuple(ends[head]), [list(ends[head][0])], [(("nothing",), ())], [(kind, list(front))],
                                      [("page", "p")], [(("to",), ())]])
        elif what == 5:
            del ends[head]
        elif what == 6:
            ends[pick.choice([((), "qq"), "q", ((), ())])] = []
        elif what == 7 and pairs:
            del pairs[pick.randrange(len(pairs))]
        elif what == 8:
            joint = pick.choice([(), ("a",), ("b",), other[0]])
            stands = [("at", joint), ("at", head[0]), ("end", GONE, ()), ("end", ("page", "p"), ()), ("end", ("section", "q"), ("a",)),
                      ("end", ("nothing",), ()), ("at", list(joint)), ("at",), ("end",), ("torn",), *[each for pair in pairs for each in pair]]
            pairs.insert(pick.randrange(len(pairs) + 1), (pick.choice(stands), pick.choice(stands)))
        elif what == 9:
            at = pick.randrange(len(pairs))
            pairs[at] = pick.choice([pairs[at][::-1], pairs[at] * 2, list(pairs[at]), pairs[at][:1], None])
        elif what == 10:
            pairs = pick.choice([pairs[::-1], pairs * 2, tuple(pairs), {pair: True for pair in pairs}, pairs[1:], pairs[:-1]])
        elif what == 11:
            heights, backs, ends, pairs = pick.choice([(backs, heights, ends, pairs), (heights, backs, pairs, ends),
                                                       (heights, ends, backs, pairs), (ends, backs, heights, pairs)])
        else:
            ends = {each: ends[each] for each in list(ends)[::-1]}
        yield (heights, backs, ends, pairs)


class Rights(unittest.TestCase):
    def right(self, value, server=SERVER, site=SITE, day=0):
        self.assertIs(is_right_paper(server, site, day, value), True, value)

    def wrong(self, value, server=SERVER, site=SITE, day=0):
        self.assertIs(is_right_paper(server, site, day, value), False, value)

    def test_there_is_one_exactly_if_the_site_is_safe(self):
        for day, safe in ((0, True), (1, False), (4, True), (5, False), (34, False), (35, True)):
            paper = right_paper(BACK_AND_FORTH, MOVED, day)
            self.assertIs(paper is not None, safe)
            if safe:
                self.assertIsInstance(paper, tuple)
                self.right(paper, BACK_AND_FORTH, MOVED, day)
                self.assertEqual(right_paper(day=day, site=MOVED, server=BACK_AND_FORTH), paper)
                self.assertIs(is_right_paper(value=paper, day=day, site=MOVED, server=BACK_AND_FORTH), True)

    def test_without_anything(self):
        paper = right_paper(Server(), Site(), 7)
        self.assertEqual(paper[1:], ({((), "a"): [], ((), "$"): []}, {((), "a"): [(GONE, ())], ((), "$"): [(GONE, ())]}, [FIRST]))
        self.right(paper, Server(), Site(), 7)
        self.right(({((), "a"): 5, ((), "$"): 0}, *paper[1:]), Server(), Site(), 0)

    def test_a_section_that_moved(self):
        heights, backs, ends, pairs = right_paper(SERVER, SITE, 0)
        self.assertEqual(ends[("s",), "$"], [(("section", "s"), ())])
        self.assertEqual(ends[("s",), "a"], [(("section", "s"), ("a",))])
        self.assertEqual(ends[("s", "p"), "$"], [(GONE, ())])
        self.assertEqual((backs[(), "o"], ends[(), "o"]), ([("s",)], []))
        self.assertEqual(ends[(), "$"], [(GONE, ())])
        at_s = (("at", ("s",)), ("at", ("s",)))
        at_p = (("at", ("s", "p")), ("at", ("s", "p")))
        self.assertEqual(sorted(pairs), [FIRST, at_s, at_p])
        for more in ([*pairs, at_s], [*pairs, FIRST], pairs[::-1], [*pairs, (("end", GONE, ()), ("end", GONE, ()))],
                     [*pairs, (("end", ("section", "x"), ("y",)), ("end", ("section", "x"), ("y",)))]):
            self.right((heights, backs, ends, more))
        for less in ([], [FIRST], [at_s, at_p], [FIRST, at_s], [FIRST, at_p], pairs[:-1]):
            self.wrong((heights, backs, ends, less))
        for more in ((("at", ("s",)), ("at", ())), (("at", ()), ("at", ("s",))), (("end", GONE, ()), ("at", ())),
                     (("end", GONE, ()), ("end", ("page", "p"), ())), (("at", ("s",)), ("end", ("section", "s"), ())),
                     (("end", ("section", "s"), ()), ("at", ("s",)))):
            value = (heights, backs, ends, [*pairs, more])
            self.assertIs(is_right_paper(SERVER, SITE, 0, value), plain_is_right(SERVER, SITE, 0, value))
        self.wrong((heights, backs, ends, [*pairs, (("at", ("s",)), ("at", ()))]))

    def test_ends(self):
        heights, backs, ends, pairs = right_paper(SERVER, SITE, 0)
        for head, value, due in ((((), "a"), None, True), (((), "a"), [], False), (((), "a"), [(("page", "x"), ())], False),
                                 ((("s",), "$"), None, False), ((("s",), "$"), [], False), ((("s",), "$"), [(GONE, ())], False),
                                 (((), "o"), [(GONE, ())], False), (((), "o"), None, False), (((), "$"), None, True),
                                 (((), "$"), [], False), ((("s",), "a"), [(("section", "s"), ("b",))], False),
                                 ((("s",), "a"), [(("section", "t"), ("a",))], False), ((("s",), "a"), None, False)):
            paper = (heights, backs, {**ends, head: value}, pairs)
            self.assertIs(is_right_paper(SERVER, SITE, 0, paper), due, (head, value))
            self.assertIs(plain_is_right(SERVER, SITE, 0, paper), due)

    def test_the_form_of_ends(self):
        # Walks over the head ((), "x") come back, and there is no heir: any end may stand there, if it is one.
        server = server_of((0, [open_("x", *to("")), exact("p", "page", "p")]))
        site = site_of(put(0, "page", "p", "p"))
        heights, backs, ends, pairs = right_paper(server, site, 0)
        self.assertEqual((ends[(), "x"], backs[(), "x"]), ([], [()]))
        page, section = (("page", "q"), ()), (("section", "q"), ("a", "b"))
        for value, due in ((None, True), ([page], True), ([section], True), ([(("section", "q"), ())], True), ([(GONE, ())], True),
                           ([page, page], False), ([page, section], False), ([(("page", "q"), ("a",))], False), ([(GONE, ("a",))], False),
                           ([(("nothing",), ())], False), ([(("to",), ())], False), ([(("to", "q"), ())], False),
                           ([(("goto", "q"), ("a",))], False), ([(("page", "Q"), ())], False), ([(("section", "Q"), ())], False),
                           ([(("section", "q"), ("A",))], False), ([(("section", "q"), ["a"])], False), ([(("section", "q"), "a")], False),
                           ([(("page",), ())], False), ([(("section",), ())], False), ([(("section", "q", ()), ())], False),
                           ([("gone", ())], False), ([(["gone"], ())], False), ([(GONE,)], False), ([[GONE, ()]], False),
                           ([(GONE, (), ())], False), ((page,), False), (page, False), ({}, False), ([None], False), ("", False)):
            paper = (heights, backs, {**ends, ((), "x"): value}, pairs)
            self.assertIs(is_right_paper(server, site, 0, paper), due, value)
            self.assertIs(plain_is_right(server, site, 0, paper), due, value)
            if isinstance(value, list) and len(value) == 1 and isinstance(value[0], tuple):
                stand = ("end", *value[0])
                paper = (heights, backs, ends, [*pairs, (stand, stand)])
                self.assertIs(is_right_paper(server, site, 0, paper), due, stand)

    def test_the_keys_of_ends(self):
        heights, backs, ends, pairs = right_paper(SERVER, SITE, 0)
        for head in list(ends):
            fewer = {each: ends[each] for each in ends if each != head}
            self.wrong((heights, backs, fewer, pairs))
            for other in (((), "zz"), (("zz",), "$"), ("zz",), "zz", 0, None):
                self.wrong((heights, backs, {**fewer, other: ends[head]}, pairs))
                self.wrong((heights, backs, {**ends, other: ends[head]}, pairs))

    def test_several_ends(self):
        # Readers may come to several ends, but only where there is no heir.
        server = server_of((0, [open_("a", *to("b", 9))]), (1, [open_("b", "section", "t"), exact("p", "page", "p")]))
        site = site_of(put(0, "page", "p", "p"))
        heights, backs, ends, pairs = paper = right_paper(server, site, 1)
        self.assertIsNone(ends[(), "a"])
        self.assertEqual(ends[(), "b"], [(("section", "t"), ())])
        self.right(paper, server, site, 1)
        for value in ([], [(GONE, ())], [(("section", "t"), ())]):
            self.wrong((heights, backs, {**ends, ((), "a"): value}, pairs), server, site, 1)
        self.assertIsNone(right_paper(server, site_of(put(0, "page", "p", "p"), put(0, "section", "t", "a")), 1))

    def test_another_day_or_site(self):
        paper = right_paper(BACK_AND_FORTH, MOVED, 4)
        for day, due in ((2, True), (3, True), (4, True), (1, False), (0, False), (5, False), (35, False)):
            self.assertIs(is_right_paper(BACK_AND_FORTH, MOVED, day, paper), due)
        self.wrong(paper, BACK_AND_FORTH, Site(), 4)
        self.wrong(paper, Server(), MOVED, 4)

    def test_the_joints_and_words_of_the_claims_count(self):
        server = server_of((0, [open_("s", "section", "s")]))
        site = site_of(put(0, "section", "s", "s"), put(0, "page", "p", "x", "y"), take(0, "p"))
        heights, backs, ends, _ = right_paper(server, site, 0)
        heads = Heads([*server.sources(0), (claims_table(site), 1)]).heads()
        self.assertIn((("x",), "a"), heads)
        for part in (heights, backs, ends):
            self.assertEqual(sorted(part), sorted(heads))

    def test_any_values(self):
        paper = right_paper(SERVER, SITE, 0)
        heights, backs, ends, pairs = paper
        for value in (*ANY_VALUES, paper[:3], (*paper, []), list(paper), paper[::-1], (heights, backs), (paper,)):
            self.wrong(value)
            for at in range(4):
                parts = list(paper)
                parts[at] = value
                self.wrong(tuple(parts))
            if value is not None:
                self.wrong((heights, backs, {**ends, ((), "a"): value}, pairs))
            self.wrong((heights, backs, {**ends, ((), "a"): [value]}, pairs))
            self.wrong((heights, backs, {**ends, ((), "a"): [(value, ())]}, pairs))
            if value != ():
                self.wrong((heights, backs, {**ends, ((), "a"): [(GONE, value)]}, pairs))
            self.wrong((heights, backs, ends, [*pairs, value]))
            self.wrong((heights, backs, ends, [*pairs, (value, ("at", ()))]))
            self.wrong((heights, backs, ends, [*pairs, (("at", ()), value)]))
            self.wrong((heights, backs, ends, [*pairs, (("end", value, ()), ("end", value, ()))]) if value != GONE else None)
            if value not in ((), ("a",), ("nothing",)):
                self.wrong((heights, backs, ends, [*pairs, (("end", GONE, value), ("end", GONE, value))]))
                self.wrong((heights, backs, ends, [*pairs, (("at", value), ("at", ()))]))

    def test_what_is_passed_stays_and_what_is_returned_is_the_callers(self):
        server, site = SERVER.copied(), SITE.copied()
        paper = right_paper(server, site, 0)
        due = copy.deepcopy(paper)
        is_right_paper(server, site, 0, paper)
        self.assertEqual(paper, due)
        for part in paper[1].values():
            part.append("x")
        for each in paper[2].values():
            if each is not None:
                each.append("x")
        self.assertTrue(all(each is None or each.count("x") == 1 for each in paper[2].values()))
        paper[0].clear()
        paper[3].clear()
        self.assertEqual(right_paper(server, site, 0), due)
        self.assertEqual((server, site), (SERVER, SITE))
        site.take(1, "s")
        server.set_table(1, server.table(0))
        self.right(due, server, site)
        self.wrong(due, server, site, 1)

    def test_by_chance(self):
        pick = random.Random(37)
        counts = {True: 0, False: 0, None: 0}
        for _ in range(300):
            server, site = some_plan(pick, pick.choice(["a", "ab"]), pick.choice([2, 6, 15]), odd=pick.choice([0, 0.2]), longest=2)
            day = pick.choice([*days_of(server, site), 60])
            paper = right_paper(server, site, day)
            self.assertIs(paper is None, wrong_address(server, site, day) is not None)
            if paper is None:
                counts[None] += 1
                continue
            self.right(paper, server, site, day)
            self.assertIs(plain_is_right(server, site, day, paper), True)
            for value in changed_papers(pick, paper, 12):
                due = plain_is_right(server, site, day, value)
                self.assertIs(is_right_paper(server, site, day, value), due, value)
                counts[due] += 1
        self.assertGreater(min(counts.values()), 30)

    def test_papers_of_others(self):
        # A paper for one plan is seldom right for another one.
        pick = random.Random(38)
        plans = []
        while len(plans) < 12:
            server, site = some_plan(pick, "a", 4, odd=0, longest=1, names="pq")
            if right_paper(server, site, 3) is not None:
                plans.append((server, site))
        papers = [right_paper(server, site, 3) for server, site in plans]
        for server, site in plans:
            for paper in papers:
                due = plain_is_right(server, site, 3, paper)
                self.assertIs(is_right_paper(server, site, 3, paper), due)


if __name__ == "__main__":
    unittest.main()
