"""Points 14 and 15: sites, what happens to them, and claims."""

import random
import unittest

from leadsever.errors import BadDay, BadName, BadPlace, NotStanding, Standing, TakenName, TakenPlace, UnknownName
from leadsever.sites import Site
from happened import happen, plain_became, plain_claims, some_site
from test_rules import ANY_VALUES

LATE = 1000000
# Ahead of a day, the last one on which something happened in the site of some_things is 5.
BAD_DAYS = (*[value for value in ANY_VALUES if isinstance(value, bool) or value not in (0, 1)], LATE + 1, -1, "1", (1,), [1])
BAD_NAMES = (*[value for value in ANY_VALUES if value not in ("a", "exact")], "faQ", "a b", "a" * 13, "a1", ["a"], ("a",))
BAD_PLACES = (*[value for value in ANY_VALUES if value not in ((), ("a",), ("nothing",))], ("a",) * 5, ["a"], ["a", "b"],
              ("a", ""), ("A",), (("a",),), ("a", 1), "a", ("a" * 13,))
NAME_ERRORS = (UnknownName, TakenName, NotStanding, Standing)


def some_things():
    """A site: a page 'home' at (), a section 'docs', a page 'old' that was taken away, and 'away' merged into 'docs'."""
    site = Site()
    site.put_page(1, "home", ())
    site.put_section(1, "docs", ("docs",))
    site.put_page(2, "old", ("docs",))
    site.put_section(3, "away", ("x", "y"))
    site.take(4, "old")
    site.merge(5, "away", "docs")
    return site


class SiteTest(unittest.TestCase):
    def refused(self, site, error, value, method, *args):
        before = (site.events(), site.claims(), site.names, site.last, [site.place_of(name) for name in site.names])
        with self.assertRaises(error) as caught:
            getattr(site, method)(*args)
        self.assertIs(type(caught.exception), error)
        kept = caught.exception.name if error in NAME_ERRORS else (
            caught.exception.place if error is TakenPlace else caught.exception.value)
        if isinstance(value, tuple) and error is BadName:
            self.assertIsInstance(kept, tuple)
            self.assertEqual(len(kept), len(value))
            self.assertTrue(all(one is two for one, two in zip(kept, value)))
        else:
            self.assertIs(kept, value)
        after = (site.events(), site.claims(), site.names, site.last, [site.place_of(name) for name in site.names])
        self.assertEqual(after, before)


class Put(SiteTest):
    def test_without_anything(self):
        site = Site()
        self.assertEqual((site.names, site.events(), site.claims(), site.last), ([], [], [], None))
        self.assertEqual(site.at(5), site)

    def test_pages_and_sections(self):
        site = Site()
        self.assertIsNone(site.put_page(0, "faq", ("a", "b", "c", "d")))
        self.assertIsNone(site.put_section(0, "docs", ()))
        site.put_page(LATE, "home", ())
        self.assertEqual(site.names, ["docs", "faq", "home"])
        self.assertEqual([site.sort_of(name) for name in site.names], ["section", "page", "page"])
        self.assertEqual([site.place_of(name) for name in site.names], [(), ("a", "b", "c", "d"), ()])
        self.assertEqual(site.events(), [(0, "put", "page", "faq", ("a", "b", "c", "d")), (0, "put", "section", "docs", ()),
                                         (LATE, "put", "page", "home", ())])
        self.assertEqual(site.last, LATE)

    def test_a_page_and_a_section_at_one_place(self):
        for first, second in (("put_page", "put_section"), ("put_section", "put_page")):
            site = Site()
            getattr(site, first)(1, "p", ("x",))
            getattr(site, second)(1, "q", ("x",))
            self.assertEqual([site.place_of("p"), site.place_of("q")], [("x",), ("x",)])

    def test_by_name(self):
        site = Site()
        site.put_page(place=("x",), name="p", day=3)
        site.put_section(name="s", day=3, place=("x",))
        site.put_section(name="t", day=3, place=("y",))
        site.move(place=("z",), day=4, name="p")
        site.merge(other="t", name="s", day=5)
        site.take(name="p", day=6)
        site.bring(place=("w",), name="p", day=7)
        self.assertEqual(site.events(), [
            (3, "put", "page", "p", ("x",)), (3, "put", "section", "s", ("x",)), (3, "put", "section", "t", ("y",)),
            (4, "move", "page", "p", ("z",)), (5, "merge", "section", "s", "t"), (6, "take", "page", "p"),
            (7, "bring", "page", "p", ("w",))])
        self.assertEqual((site.sort_of(name="p"), site.place_of(name="p")), ("page", ("w",)))
        self.assertEqual(site.at(day=3).events(), site.events()[:3])

    def test_what_is_no_day(self):
        for method in ("put_page", "put_section"):
            for value in BAD_DAYS:
                self.refused(Site(), BadDay, value, method, value, "p", ())
                self.refused(some_things(), BadDay, value, method, value, "p", ("q",))
            for day in (0, 1, 4):
                self.refused(some_things(), BadDay, day, method, day, "p", ("q",))
            getattr(some_things(), method)(5, "p", ("q",))

    def test_what_is_no_name(self):
        for method in ("put_page", "put_section"):
            for value in BAD_NAMES:
                self.refused(Site(), BadName, value, method, 0, value, ())

    def test_what_is_no_place(self):
        for method in ("put_page", "put_section"):
            for value in BAD_PLACES:
                self.refused(Site(), BadPlace, value, method, 0, "p", value)
                self.refused(some_things(), BadPlace, value, method, 5, "p", value)

    def test_taken_names(self):
        for method in ("put_page", "put_section"):
            for name in ("home", "docs", "old", "away"):
                self.refused(some_things(), TakenName, name, method, 5, name, ("q",))

    def test_taken_places(self):
        site = some_things()
        place = ("docs",)
        self.refused(site, TakenPlace, place, "put_section", 5, "p", place)
        self.refused(site, TakenPlace, (), "put_page", 5, "p", ())
        site.put_page(5, "p", ("docs",))
        site.put_section(5, "q", ("x", "y"))
        site.put_section(5, "r", ())
        self.assertEqual(site.place_of("q"), ("x", "y"))

    def test_which_comes_first(self):
        site = some_things()
        for method in ("put_page", "put_section"):
            self.refused(site, BadDay, 4, method, 4, None, None)
            self.refused(site, BadName, None, method, 5, None, None)
            self.refused(site, BadPlace, None, method, 5, "home", None)
        self.refused(site, TakenName, "home", "put_page", 5, "home", ())
        self.refused(site, TakenName, "docs", "put_section", 5, "docs", ("docs",))


class Move(SiteTest):
    def test_move(self):
        site = some_things()
        self.assertIsNone(site.move(5, "docs", ("manual",)))
        self.assertEqual(site.place_of("docs"), ("manual",))
        self.assertEqual(site.sort_of("docs"), "section")
        site.move(9, "docs", ("docs",))
        site.move(9, "home", ("docs",))
        self.assertEqual([site.place_of("docs"), site.place_of("home")], [("docs",), ("docs",)])
        self.assertEqual(site.events()[-2:], [(9, "move", "section", "docs", ("docs",)), (9, "move", "page", "home", ("docs",))])

    def test_bring(self):
        site = some_things()
        self.assertIsNone(site.bring(5, "old", ("docs",)))
        site.bring(6, "away", ("z",))
        self.assertEqual([site.place_of("old"), site.place_of("away")], [("docs",), ("z",)])
        self.assertEqual(site.events()[-2:], [(5, "bring", "page", "old", ("docs",)), (6, "bring", "section", "away", ("z",))])
        site.take(7, "old")
        site.bring(7, "old", ("docs",))
        self.assertEqual(site.place_of("old"), ("docs",))

    def test_what_is_no_day(self):
        for method, name in (("move", "docs"), ("bring", "old")):
            for value in (*BAD_DAYS, 0, 4):
                self.refused(some_things(), BadDay, value, method, value, name, ("q",))

    def test_unknown_names(self):
        for method in ("move", "bring"):
            for value in (*ANY_VALUES, "doc", "docsx", ["docs"], ("docs",)):
                self.refused(some_things(), UnknownName, value, method, 5, value, ("q",))
                self.refused(Site(), UnknownName, value, method, 0, value, ())

    def test_standing_and_not_standing(self):
        site = some_things()
        for name in ("old", "away"):
            self.refused(site, NotStanding, name, "move", 5, name, ("q",))
        for name in ("home", "docs"):
            self.refused(site, Standing, name, "bring", 5, name, ("q",))

    def test_what_is_no_place(self):
        for method, name in (("move", "docs"), ("bring", "old")):
            for value in BAD_PLACES:
                self.refused(some_things(), BadPlace, value, method, 5, name, value)

    def test_taken_places(self):
        site = some_things()
        site.put_section(5, "s", ("s",))
        place = ("s",)
        for method, name in (("move", "docs"), ("bring", "away"), ("move", "s")):
            self.refused(site, TakenPlace, place, method, 5, name, place)
        self.refused(site, TakenPlace, (), "bring", 5, "old", ())
        self.refused(site, TakenPlace, (), "move", 5, "home", ())
        site.move(5, "home", ("s",))
        site.bring(5, "old", ())

    def test_which_comes_first(self):
        site = some_things()
        for method in ("move", "bring"):
            self.refused(site, BadDay, 4, method, 4, "no", None)
            self.refused(site, UnknownName, "no", method, 5, "no", None)
        self.refused(site, NotStanding, "old", "move", 5, "old", None)
        self.refused(site, Standing, "docs", "bring", 5, "docs", None)
        self.refused(site, NotStanding, "old", "move", 5, "old", ())
        self.refused(site, Standing, "docs", "bring", 5, "docs", ("docs",))


class MergeAndTake(SiteTest):
    def test_merge(self):
        site = some_things()
        site.put_section(5, "s", ("s",))
        self.assertIsNone(site.merge(6, "docs", "s"))
        self.assertEqual([site.place_of("docs"), site.place_of("s")], [None, ("s",)])
        self.assertEqual(site.events()[-1], (6, "merge", "section", "docs", "s"))
        self.assertEqual(site.names, ["away", "docs", "home", "old", "s"])

    def test_take(self):
        site = some_things()
        self.assertIsNone(site.take(5, "home"))
        self.assertIsNone(site.place_of("home"))
        self.assertEqual(site.events()[-1], (5, "take", "page", "home"))
        self.assertEqual(site.sort_of("home"), "page")
        site.put_page(5, "p", ())
        self.assertEqual(site.place_of("p"), ())

    def test_what_is_no_day(self):
        for value in (*BAD_DAYS, 0, 4):
            self.refused(some_things(), BadDay, value, "take", value, "docs")
            self.refused(some_things(), BadDay, value, "merge", value, "no", "no")

    def test_unknown_names(self):
        site = some_things()
        for value in (*ANY_VALUES, "doc", ["docs"]):
            self.refused(site, UnknownName, value, "take", 5, value)
            self.refused(site, UnknownName, value, "merge", 5, value, "docs")
            self.refused(site, UnknownName, value, "merge", 5, "docs", value)
            self.refused(site, UnknownName, value, "merge", 5, "old", value)
            self.refused(site, UnknownName, value, "merge", 5, value, "no")

    def test_not_standing(self):
        site = some_things()
        for name in ("old", "away"):
            self.refused(site, NotStanding, name, "take", 5, name)
            self.refused(site, NotStanding, name, "merge", 5, name, "docs")
            self.refused(site, NotStanding, name, "merge", 5, "home", name)
            self.refused(site, NotStanding, name, "merge", 5, name, name)
        self.refused(site, NotStanding, "old", "merge", 5, "old", "away")
        self.refused(site, NotStanding, "away", "merge", 5, "away", "old")

    def test_names_that_do_not_fit(self):
        site = some_things()
        site.put_page(5, "p", ("p",))
        for name, other in (("home", "docs"), ("docs", "home"), ("home", "home"), ("docs", "docs")):
            self.refused(site, BadName, (name, other), "merge", 5, name, other)
        site.merge(5, "home", "p")

    def test_brought_back_and_merged_again(self):
        site = some_things()
        site.bring(6, "away", ("x",))
        site.merge(7, "docs", "away")
        self.assertEqual([site.place_of("docs"), site.place_of("away")], [None, ("x",)])
        self.refused(site, NotStanding, "docs", "merge", 7, "away", "docs")


class Asked(SiteTest):
    def test_names(self):
        self.assertEqual(some_things().names, ["away", "docs", "home", "old"])
        some_things().names.append("x")
        with self.assertRaises(AttributeError):
            some_things().names = []
        with self.assertRaises(AttributeError):
            some_things().last = 3

    def test_unknown_names(self):
        site = some_things()
        for value in (*ANY_VALUES, "doc", ["docs"], ("docs",)):
            self.refused(site, UnknownName, value, "sort_of", value)
            self.refused(site, UnknownName, value, "place_of", value)

    def test_at(self):
        site = some_things()
        site.put_page(9, "p", ("p",))
        for day, many in ((0, 0), (1, 2), (2, 3), (3, 4), (4, 5), (5, 6), (8, 6), (9, 7), (LATE, 7)):
            part = site.at(day)
            self.assertIsInstance(part, Site)
            self.assertIsNot(part, site)
            self.assertEqual(part.events(), site.events()[:many])
            self.assertEqual(part.last, site.events()[many - 1][0] if many else None)
        early = site.at(3)
        self.assertEqual([early.place_of(name) for name in early.names], [("x", "y"), ("docs",), (), ("docs",)])
        early.take(3, "docs")
        self.assertEqual(site.place_of("docs"), ("docs",))
        site.at(LATE).take(9, "docs")
        self.assertEqual(site.place_of("docs"), ("docs",))

    def test_last(self):
        self.assertIsNone(Site().last)
        site = Site()
        site.put_page(0, "p", ())
        self.assertEqual(site.last, 0)
        site.take(LATE, "p")
        self.assertEqual(site.last, LATE)

    def test_copied_and_equal(self):
        site = some_things()
        other = site.copied()
        self.assertIsInstance(other, Site)
        self.assertIsNot(other, site)
        self.assertIs(site == other, True)
        self.assertIs(site != other, False)
        other.take(5, "docs")
        self.assertIs(site == other, False)
        self.assertEqual(site.place_of("docs"), ("docs",))
        self.assertIs(Site() == Site(), True)
        self.assertEqual(Site().copied(), Site())

    def test_equal_is_to_be_told_by_what_happened(self):
        one, two = Site(), Site()
        one.put_page(1, "p", ())
        two.put_page(2, "p", ())
        self.assertIs(one == two, False)
        one, two = Site(), Site()
        for site, order in ((one, "pq"), (two, "qp")):
            for name in order:
                site.put_page(1, name, (name,))
        self.assertIs(one == two, False)
        for value in (*ANY_VALUES, some_things().events()):
            self.assertIs(some_things() == value, False)
            self.assertIs(Site() == value, False)

    def test_what_is_returned_is_the_callers(self):
        site = some_things()
        for found in (site.names, site.claims(), site.events()):
            found.clear()
        self.assertEqual(site, some_things())
        self.assertEqual((len(site.names), len(site.claims()), len(site.events())), (4, 4, 6))
        place = ("a", "b")
        site.put_page(5, "p", place)
        self.assertIsNot(site.place_of("p"), place)


class Claims(unittest.TestCase):
    def test_example(self):
        site = Site()
        site.put_section(0, "docs", ("docs",))
        site.move(3, "docs", ("manual",))
        self.assertEqual(site.claims(), [("section", ("docs",), "docs", 1, 2), ("section", ("manual",), "docs", 2, None)])

    def test_each_thing_that_happens(self):
        self.assertEqual(some_things().claims(), [
            ("page", (), "home", 1, None), ("section", ("docs",), "docs", 2, None), ("page", ("docs",), "old", 3, 5),
            ("section", ("x", "y"), "away", 4, 6)])
        site = some_things()
        site.bring(5, "old", ("docs",))
        site.move(5, "old", ("d",))
        site.move(6, "old", ("docs",))
        self.assertEqual(site.claims()[4:], [("page", ("docs",), "old", 7, 8), ("page", ("d",), "old", 8, 9),
                                             ("page", ("docs",), "old", 9, None)])

    def test_merging_ends_one_claim_alone(self):
        site = Site()
        site.put_page(0, "p", ())
        site.put_page(0, "q", ("q",))
        site.merge(0, "q", "p")
        self.assertEqual(site.claims(), [("page", (), "p", 1, None), ("page", ("q",), "q", 2, 3)])

    def test_by_chance(self):
        pick = random.Random(20)
        merged = 0
        for _ in range(200):
            site = some_site(pick, "ab", pick.choice([5, 20, 60]), names="pqrs")
            events = site.events()
            self.assertEqual(site.claims(), plain_claims(events))
            self.assertEqual(site.names, sorted({event[3] for event in events}))
            for name in site.names:
                became = plain_became(events, name)
                self.assertEqual(site.place_of(name), became[1] if became and became[0] == name else None)
            again = Site()
            for event in events:
                happen(again, event)
            self.assertEqual(again, site)
            merged += any(event[1] == "merge" for event in events)
        self.assertGreater(merged, 20)


if __name__ == "__main__":
    unittest.main()
