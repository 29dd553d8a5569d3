"""Point 5: what is a rule."""

import unittest

from leadsever.tables import Table, is_rule


def deep_tuple(depth):
    value = ()
    for _ in range(depth):
        value = (value,)
    return value


def deep_list(depth):
    value = []
    for _ in range(depth):
        value = [value]
    return value


WORDS = ("a", "b", "c", "d", "e")
ANY_VALUES = (None, True, False, 0, 1, -1, 10 ** 59, "", "a", "exact", "A", (), ("a",), [], ["a"], {}, {"a": 1},
              b"a", ("exact", (), ("gone",)), deep_tuple(100), deep_list(100), {"a": deep_list(99)},
              Table(), (Table(),), [Table()], ("nothing",), ("section", "a", ()), ValueError("a"))


class GoodRules(unittest.TestCase):
    def good(self, *rule):
        self.assertIs(is_rule(rule), True, rule)

    def test_each_answer_with_each_sort(self):
        self.good("exact", ("a",), ("page", "faq"))
        self.good("open", ("a",), ("section", "docs"))
        for sort in ("exact", "open"):
            self.good(sort, ("a",), ("gone",))
            self.good(sort, ("a",), ("to", ("b",), 0))
            self.good(sort, ("a",), ("to", ("b",), 9))

    def test_how_many_words(self):
        for sort in ("exact", "open"):
            for size in range(5):
                self.good(sort, WORDS[:size], ("gone",))
                self.good(sort, ("a",), ("to", WORDS[:size], 1))

    def test_days(self):
        for days in (0, 1, 30, 9999, 10000):
            self.good("open", (), ("to", (), days))
            self.good("exact", (), ("to", (), days))

    def test_names_of_up_to_12_letters(self):
        for name in ("a", "z" * 12):
            self.good("exact", (), ("page", name))
            self.good("open", (), ("section", name))

    def test_by_name(self):
        self.assertIs(is_rule(value=("open", (), ("gone",))), True)


class BadRules(unittest.TestCase):
    def bad(self, value):
        self.assertIs(is_rule(value), False)

    def test_the_kind_of_the_other_sort(self):
        self.bad(("open", ("a",), ("page", "faq")))
        self.bad(("exact", ("a",), ("section", "docs")))

    def test_other_sorts(self):
        for sort in (*ANY_VALUES, "page", "Open", "open ", "ope", "exac"):
            if sort != "exact":
                self.bad((sort, ("a",), ("gone",)))
                self.bad((sort, ("a",), ("to", ("b",), 1)))

    def test_other_places(self):
        for place in (*ANY_VALUES, WORDS, WORDS * 1000, ("A",), ("a", ""), ("a" * 13,), (1,), ("a", ("b",))):
            if place not in ((), ("a",), ("nothing",)):
                for sort in ("exact", "open"):
                    self.bad((sort, place, ("gone",)))
                    self.bad((sort, ("a",), ("to", place, 1)))

    def test_other_days(self):
        for days in (*ANY_VALUES, 10001, -1, -2, True, False, "1", 1.0, (1,), [1]):
            if isinstance(days, bool) or days not in (0, 1):
                self.bad(("open", ("a",), ("to", ("b",), days)))
                self.bad(("exact", ("a",), ("to", ("b",), days)))

    def test_other_names(self):
        for name in (*ANY_VALUES, "a" * 13, "faQ", "a b", "a/b", "a1"):
            if name not in ("a", "exact"):
                self.bad(("exact", ("a",), ("page", name)))
                self.bad(("open", ("a",), ("section", name)))

    def test_other_answers(self):
        answers = (("nothing",), (), ("gone", "a"), ("gone", ()), ("gone", 0), ("page",), ("page", "a", "b"),
                   ("page", "a", ()), ("section",), ("section", "a", ()), ("section", "a", ("b",)), ("to",),
                   ("to", ("b",)), ("to", ("b",), 1, 1), ("to", 1, ("b",)), (("gone",),), ("Gone",), ("",),
                   ("passing", ("b",)), ("to", "b", 0), ("to", "", 0))
        for answer in (*ANY_VALUES, *answers):
            self.bad(("exact", ("a",), answer))
            self.bad(("open", ("a",), answer))

    def test_other_kinds(self):
        for kind in ANY_VALUES:
            self.bad(("exact", ("a",), (kind,)))
            self.bad(("open", ("a",), (kind, "a")))
            self.bad(("open", ("a",), (kind, ("a",), 1)))

    def test_other_numbers_of_parts(self):
        self.bad(())
        self.bad(("open",))
        self.bad(("open", ("a",)))
        self.bad(("open", ("a",), ("gone",), ("gone",)))
        self.bad(("open", ("a",), "gone"))
        self.bad(("a", "open", ("gone",)))
        self.bad((("a",), "open", ("gone",)))

    def test_lists_where_tuples_are_told(self):
        self.bad(["open", ("a",), ("gone",)])
        self.bad(("open", ["a"], ("gone",)))
        self.bad(("open", [], ("gone",)))
        self.bad(("open", ("a",), ["gone"]))
        self.bad(("exact", ("a",), ["page", "a"]))
        self.bad(("open", ("a",), ["to", ("b",), 0]))
        self.bad(("open", ("a",), ("to", ["b"], 0)))
        self.bad(("open", ("a",), ("to", [], 0)))

    def test_any_values(self):
        for value in ANY_VALUES:
            if value != ("exact", (), ("gone",)):
                self.bad(value)


if __name__ == "__main__":
    unittest.main()
