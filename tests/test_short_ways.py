"""Point 19 and wrong_way: where there are wrong ways with short walks, one of these is returned."""

import itertools
import random
import unittest

from leadsever.console import Console
from leadsever.errors import NotSafe
from leadsever.heirs import claims_table
from leadsever.readers import is_choice
from leadsever.safe import is_wrong_way, need_safe, wrong_address, wrong_walk, wrong_way
from leadsever.sites import Site
from leadsever.tables import Table
from leadsever.texts import address_text, table_text
from leadsever.walks import walked
from happened import plain_heir
from plain import plain_is_round
from served import exact, open_, plain_fits, plain_is_wrong_way, put, server_of, site_of, some_plan, to
from shortest import Plain, TooMany, slow_rules, some_late_server, some_place, some_redirect, some_slow_server
from test_walks import LETTERS

DAY = 7
SLOW = "cdefghijk"
ONE, OTHER = "cdefghij", "klmnrstu"


def late_rules(many):
    """Rules by which () leads to /b/b and /a/b, and this in 2 ** many redirects to /b."""
    return [open_("", *to("bb", 1)), open_("a", *to("c", 1)), open_("b", *to("a")), *slow_rules(SLOW[:many])]


def late_server(many, *more):
    """A server of which a reader may remember that /b leads to /a/b, with some more rules."""
    return server_of((2, [exact("b", *to("ab", 9))]), (6, [*late_rules(many), *more]))


def chain(letter, many, last):
    """So many redirects from a word of a letter and a, by words of this letter, to a last one."""
    words = [*[letter + other for other in LETTERS[:many]], last]
    return [open_((one,), *to((other,), 9)) for one, other in zip(words, words[1:])]


class ShortWays(unittest.TestCase):
    def check(self, server, due, many, turn=None, site=None):
        """Checks the address of a wrong way, how many addresses its walk has, and its round if one is told."""
        site = Site() if site is None else site
        way = wrong_way(server, site, DAY)
        self.assertEqual((way[0], len(way[2])), (due, many))
        self.assertEqual(wrong_address(server, site, DAY), due)
        self.assertIs(is_wrong_way(server, site, DAY, way), True)
        self.assertIs(plain_is_wrong_way(server, site, DAY, way), True)
        if turn is not None:
            self.assertEqual(way[3], turn)
        with self.assertRaises(NotSafe) as caught:
            need_safe(server, site, DAY)
        self.assertEqual(caught.exception.way, way)
        return way

    def check_plainly(self, server, due, site=None):
        """Checks that no walk is shorter than that of a wrong way, and returns how many addresses this has."""
        site = Site() if site is None else site
        many = len(wrong_way(server, site, DAY)[2])
        self.check(server, due, many, site=site)
        heir = plain_heir(claims_table(site.at(DAY)), due)
        self.assertIsNone(Plain(server.sources(DAY)).wrong(due, heir, many - 2))
        return many


class LateRounds(ShortWays):
    """Rounds that come back to what was passed first while a part of another address was worked off."""

    def test_an_address_that_is_passed_first(self):
        # The head of /b is met once before the round ends, so a walk that meets it twice is nearly twice as long.
        for many in range(1, 9):
            size = 2 ** many
            way = self.check(late_server(many), (), size + 4, (2, size + 3, 2))
            self.assertEqual((way[2][:3], way[2][-2:]), ([(), ("b", "b"), ("a", "b")], [("b",), ("a", "b")]))
            self.assertEqual(way[1], [(5, ("b",))])

    def test_several_words_that_are_worked_off(self):
        for words, many in (("ab", 7), ("aab", 7), ("afb", 6), ("fab", 7), ("feb", 7), ("afeb", 6), ("aaab", 6), ("haab", 6)):
            first = ("b", *words[1:])
            rules = [open_("", *to(first, 1)), *late_rules(many)[1:2], open_("b", *to(words[:1])), *late_rules(many)[3:]]
            server = server_of((2, [exact("b", *to(words, 9))]), (6, rules))
            self.assertGreater(self.check_plainly(server, ()), 30)

    def test_500_addresses(self):
        # The words of /a and /k take 1 + 255 + 127 + 63 and 1 + 31 + 15 + 3 redirects.
        rules = [open_("", *to("bb", 1)), open_("a", *to("cdek")), open_("k", *to("fgi")), open_("b", *to("a")), *slow_rules("cdefghij")]
        server = server_of((2, [exact("b", *to("ab", 9))]), (6, rules))
        self.check(server, (), 500, (2, 499, 2))

    def test_fronts_that_grow(self):
        # One table alone, by which there is one walk: /a, /y/z, /x/z, and some time after /z the address /x/z/w.
        for many, more in itertools.product((1, 2, 5, 8), ("", "w", "wz", "zz")):
            rules = [open_("a", *to("yz")), open_("y", *to("x")), open_("x", *to("c")), open_("z", *to(("x", "z", *more))), *slow_rules(SLOW[:many])]
            size = 2 ** many
            way = self.check(server_of((0, rules)), ("a",), size + 4, (2, size + 3, 2))
            self.assertEqual((way[2], None, way[3]), walked(Table(rules), ("a",)))

    def test_with_other_words_behind(self):
        # The whole address is /x/z/q at first and /x/z/w/q at the end.
        rules = [open_("a", *to("yzq")), open_("y", *to("x")), open_("x", *to("c")), open_("z", *to("xzw")), *slow_rules(SLOW[:7])]
        way = self.check(server_of((0, rules)), ("a",), 132, (2, 131, 2))
        self.assertEqual((way[2][2], way[2][131]), (("x", "z", "q"), ("x", "z", "w", "q")))

    def test_words_that_are_put_in_front_in_two_ways(self):
        # At first /x/z/q comes of x and z q, at the end of x z and q.
        rules = [open_("a", *to("yzq")), open_("y", *to("x")), open_("x", *to("c")), open_("z", *to("")), open_("q", *to("pqs")),
                 open_("p", *to("xz")), *slow_rules(SLOW[:6])]
        due = walked(Table(rules), ("a",))
        self.assertEqual((len(due[0]), due[2]), (70, (2, 69, 3)))
        self.check(server_of((0, rules)), ("a",), 70, (2, 69, 3))

    def test_one_table(self):
        # There is one walk alone.
        pick = random.Random(71)
        lengths = set()
        for _ in range(400):
            server = pick.choice([some_slow_server, some_late_server])(pick)
            rules = {rule[:2]: rule for day in server.days for rule in server.table(day).rules}
            table = Table(list(rules.values()))
            way = wrong_way(server_of((DAY, table)), Site(), DAY)
            if way is not None:
                walk, _, turn = walked(table, way[0])
                self.assertEqual(way[1:3], ([], walk))
                self.assertEqual(way[3][:2], turn[:2])
                lengths.add(len(walk))
        self.assertGreater(len(lengths), 20)


class TwoLengths(ShortWays):
    def test_two_rounds_from_one_address(self):
        # A reader may remember that /b leads to /a/b, or to /e/b, and the words of /a take longer than those of /e.
        for first in "ae":
            for targets in (["ab"], ["eb"], ["ab", "eb"], ["eb", "ab"], ["ab", "gb"], ["gb", "eb"], ["agb", "eb"], ["ab", "egb"]):
                rules = [open_("", *to("bb", 1)), open_("a", *to("c", 1)), open_("b", *to(first)), *slow_rules(SLOW[:7])]
                rows = [(day, [exact("b", *to(target, 9))]) for day, target in enumerate(targets)]
                self.assertGreater(self.check_plainly(server_of(*rows, (6, rules)), ()), 7)

    def test_a_long_way_to_a_short_round_and_a_short_way_to_a_long_round(self):
        # From /a, it takes a reader 2 ** many redirects to come to /p or /q, and 2 ** more to come to it again.
        lengths = set()
        for sizes in itertools.permutations([(1, 8), (2, 7), (4, 4), (5, 6), (6, 4), (7, 2), (8, 1)], 2):
            (one, other), (third, fourth) = [(ONE[-many], OTHER[-more]) for many, more in sizes]
            old = [open_("a", *to((one, "p"), 9)), open_("p", *to((other, "p"), 9))]
            new = [open_("a", *to((third, "q"))), open_("q", *to((fourth, "q"))), *slow_rules(ONE), *slow_rules(OTHER)]
            due = min(2 ** many + 2 ** more for many, more in sizes)
            self.check(server_of((2, old), (6, new)), ("a",), due + 1)
            lengths.add(due)
        self.assertGreater(len(lengths), 4)

    def test_ways_to_a_round_that_pass_a_part_of_it(self):
        # With the same words ahead of /p and in the round, it comes back to one that was passed on the way to /p.
        for many, more in itertools.product(range(1, 8), repeat=2):
            rules = [open_("a", *to((ONE[-many], "p"))), open_("p", *to((ONE[-more], "p"))), *slow_rules(ONE)]
            self.check(server_of((0, rules)), ("a",), 2 ** max(many, more) + 2)

    def test_two_late_rounds(self):
        # Both come back to what was passed at once; which of them is shorter hangs on the words ahead.
        for many, more in itertools.permutations(range(1, 7), 2):
            rules = [exact("", *to("bb")), open_("b", *to("a")), open_("a", *to(ONE[-many])), open_("z", *to(OTHER[-more])),
                     *slow_rules(ONE), *slow_rules(OTHER)]
            old = [exact("b", *to("ab", 9)), exact("y", *to("zy", 9)), exact("", *to("yy", 9)), open_("y", *to("z", 9))]
            size = 2 ** min(many, more)
            self.check(server_of((2, old), (6, rules)), (), size + 4, (2, size + 3, 2))

    def test_a_round_that_takes_time_twice(self):
        # It takes so many redirects to come to /x/c/b at first, and as many to come to it again; or 73 to go round at /q.
        for many in range(1, 10):
            rules = [exact("", *to(("wa", "c", "b"))), *chain("w", many, "x"), open_("x", *to("")), exact("b", *to(("za", "c", "b"))),
                     *chain("z", many, "x"), *slow_rules(SLOW[:6])]
            old = [exact("", *to(("qa",), 9)), *chain("q", 9, "q"), open_("q", *to("cq", 9))]
            self.check(server_of((2, old), (6, rules)), (), min(67 + 2 * many, 75))

    def test_a_late_round_and_an_end(self):
        # The page is at (); a reader may remember that () leads to what is gone after some time.
        site = site_of(put(0, "page", "p"))
        for many, more in itertools.product((4, 7), range(1, 9)):
            server = server_of((2, [exact("b", *to("ab", 9)), exact("", *to((OTHER[-more], "z"), 9))]),
                               (6, [*late_rules(many), *slow_rules(OTHER), open_("z", "gone")]))
            way = self.check(server, (), min(2 ** many + 4, 2 ** more + 1), site=site)
            self.assertIs(way[3] is None, more <= many)

class LongServers(ShortWays):
    def test_many_tables(self):
        # Very much may be remembered, but a few redirects are enough to go wrong.
        pick = random.Random(72)
        for sizes in ([0, 1, 2, 3], [1, 2], [2, 3]):
            rows = []
            for day in range(7):
                rules = [some_redirect(pick, "abcdefgh", pick.choice("abcdefgh"), sizes) for _ in range(40)]
                rows.append(list({rule[:2]: rule for rule in rules}.values()))
            server = server_of(*list(enumerate(rows)))
            way = wrong_way(server, Site(), DAY)
            self.assertIs(is_wrong_way(server, Site(), DAY, way), True)
            self.assertLess(len(way[2]), 10)

    def test_many_addresses_in_a_round(self):
        # Each place leads to the next one, and the last one to the first one, by old tables.
        pick = random.Random(73)
        places = [place for size in (1, 2, 3, 4) for place in itertools.product("abcd", repeat=size)]
        pick.shuffle(places)
        rules = [exact(place, *to(after, 99)) for place, after in zip(places, [*places[1:], places[0]])]
        rows = [(day, rules[40 * day:40 * day + 40]) for day in range(9)]
        site, server = Site(), server_of(*rows)
        way = wrong_way(server, site, 20)
        self.assertEqual((way[0], len(way[2]), way[3]), (("a",), 341, (0, 340, 1)))
        self.assertIs(is_wrong_way(server, site, 20, way), True)


class ByChance(ShortWays):
    def check_walk(self, server, address, due):
        """Checks the walk from any address for any heir; returns how many redirects it has, and whether it goes round."""
        sources = server.sources(DAY)
        plain = Plain(sources)
        found = wrong_walk(sources, address, due)
        if found is None:
            self.assertIsNone(plain.wrong(address, due, 150))
            return None
        walk, turn = found
        many = len(walk) - 1
        self.assertIsNone(plain.wrong(address, due, many - 1))
        self.assertEqual((walk[0], len(set(walk[:-1]))), (address, many))
        self.assertTrue(all(is_choice(sources, one, other) for one, other in zip(walk, walk[1:])))
        if turn is None:
            end = server.answer(walk[-1], DAY)
            self.assertTrue(end[0] != "to" and not plain_fits(end, due) and walk[-1] not in walk[:-1])
        else:
            self.assertEqual(turn[1], many)
            self.assertTrue(plain_is_round(turn, walk, plain.places))
        return (many, turn is None)

    def check_many(self, seed, tries, some, least):
        pick = random.Random(seed)
        seen = set()
        for _ in range(tries):
            server = some(pick)
            address = some_place(pick, "abcdvwz", [0, 1, 1, 2, 2, 3, 5])
            due = pick.choice([None, None, ("gone",), ("page", "p"), ("section", "s", address[1:]), ("section", "s", address)])
            try:
                seen.add(self.check_walk(server, address, due))
            except TooMany:
                continue
        self.assertGreater(len(seen), least)

    def test_late_rounds(self):
        self.check_many(74, 900, some_late_server, 30)

    def test_slow_servers(self):
        self.check_many(75, 900, some_slow_server, 20)

    def test_least_wrong_addresses(self):
        pick = random.Random(76)
        lengths = set()
        for _ in range(300):
            if pick.random() < 0.7:
                server, site = pick.choice([some_slow_server, some_late_server])(pick), Site()
                for name in "pq"[:pick.randrange(3)]:
                    site.put_page(0, name, some_place(pick, name + "abw", [0, 1, 2]) + (name,))
            else:
                server, site = some_plan(pick, odd=0.6)
            address = wrong_address(server, site, DAY)
            if address is not None:
                try:
                    lengths.add(self.check_plainly(server, address, site))
                except TooMany:
                    continue
        self.assertGreater(len(lengths), 20)


class OnTheConsole(unittest.TestCase):
    def test_safe(self):
        console = Console()
        server = late_server(8)
        for day in server.days:
            console(f"day {day} " + " ; ".join(table_text(server.table(day)).split("\n")))
        way = wrong_way(server, Site(), DAY)
        due = "wrong " + " > ".join(address_text(address) for address in way[2]) + " round"
        self.assertEqual((console(f"safe {DAY}"), due.count(" > ")), (due, 259))


if __name__ == "__main__":
    unittest.main()
