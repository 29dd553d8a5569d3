"""Points 3 and 4, and what a day is (point 8)."""

import itertools
import unittest

from leadsever.tables import Table
from leadsever.words import address_key, beginnings, begins, is_address, is_day, is_word
from leadsever.words import rest_of, strange_word

LETTERS = "abcdefghijklmnopqrstuvwxyz"


def deep_tuple(depth):
    value = ()
    for _ in range(depth):
        value = (value,)
    return value


def other_values():
    """Values that are no words, no addresses and no days."""
    return [None, -5, 10 ** 59, -10 ** 59, [], ["a"], {}, {"a": "a"}, b"a", [("a",)],
            (1,), (None,), deep_tuple(100), [deep_tuple(99)], Table(), (Table(),), ValueError("a")]


class Words(unittest.TestCase):
    def test_how_many_letters(self):
        for size, due in ((0, False), (1, True), (2, True), (11, True), (12, True), (13, False),
                          (14, False), (100000, False)):
            self.assertIs(is_word("a" * size), due, size)

    def test_all_letters(self):
        for letter in LETTERS:
            self.assertIs(is_word(letter), True)
            self.assertIs(is_word("q" + letter + "q"), True)
        self.assertIs(is_word("abcdefghijkl"), True)
        self.assertIs(is_word("mnopqrstuvwx"), True)

    def test_other_letters(self):
        others = "AZ09 -_/*$.`{@[\n\t\0\u00e4\u00df\u00aa\u03b1\u0430\u0131\uff41\u0301\ud800"
        for letter in others:
            for text in (letter, "a" + letter, letter + "a", "a" + letter + "a"):
                self.assertIs(is_word(text), False, repr(text))

    def test_other_values(self):
        for value in [*other_values(), (), ("a",), True, False, 0, 1]:
            self.assertIs(is_word(value), False)

    def test_by_name(self):
        self.assertIs(is_word(value="docs"), True)


class Addresses(unittest.TestCase):
    def test_addresses(self):
        for value in ((), ("a",), ("old", "faq"), ("a",) * 5, ("a" * 12, "z" * 12), ("a", "a")):
            self.assertIs(is_address(value), True, value)

    def test_many_words(self):
        for size in (5000, 5001, 200000):
            self.assertIs(is_address(("ab",) * size), True)
            self.assertIs(is_address(("ab",) * size + ("",)), False)
            self.assertIs(is_address(("A",) + ("ab",) * size), False)

    def test_wrong_words(self):
        for word in ("", "a" * 13, "A", "a/b", "$", 1, True, None, ("a",), ["a"], {}, b"a"):
            for value in ((word,), ("a", word), (word, "a"), ("a", "b", "c", "d", "e", word)):
                self.assertIs(is_address(value), False)

    def test_no_tuples(self):
        for value in [*other_values(), [], ["a"], ["a", "b"], "", "a", "ab", "/a", {}, {"a": 1}, 0, True]:
            self.assertIs(is_address(value), False)

    def test_by_name(self):
        self.assertIs(is_address(value=("docs",)), True)


class Days(unittest.TestCase):
    def test_days(self):
        for value in (0, 1, 34, 10000, 999999, 1000000):
            self.assertIs(is_day(value), True, value)

    def test_no_days(self):
        for value in [*other_values(), -1, 1000001, 10 ** 59, -10 ** 59, True, False, None, "1", "",
                      1.0, (1,), [1], {1: 1}]:
            self.assertIs(is_day(value), False)

    def test_by_name(self):
        self.assertIs(is_day(value=7), True)


class Parts(unittest.TestCase):
    def test_begins(self):
        address = ("a", "b", "c")
        for beginning in ((), ("a",), ("a", "b"), ("a", "b", "c")):
            self.assertIs(begins(address, beginning), True)
        for other in (("b",), ("a", "c"), ("a", "b", "d"), ("a", "b", "c", "d"), ("b", "b", "c"),
                      ("ab",), ("a", "bc"), ("c",), ("b", "c"), ("a", "b", "c", "a", "b", "c")):
            self.assertIs(begins(address, other), False, other)
        self.assertIs(begins((), ()), True)
        self.assertIs(begins((), ("a",)), False)

    def test_words_are_no_text(self):
        self.assertIs(begins(("ab",), ("a",)), False)
        self.assertIs(begins(("a", "b"), ("ab",)), False)

    def test_rest_of(self):
        address = ("a", "b", "c")
        self.assertEqual(rest_of(address, ()), ("a", "b", "c"))
        self.assertEqual(rest_of(address, ("a",)), ("b", "c"))
        self.assertEqual(rest_of(address, ("a", "b")), ("c",))
        self.assertEqual(rest_of(address, address), ())
        self.assertEqual(rest_of((), ()), ())

    def test_what_is_returned_is_new(self):
        address = ("a", "b", "c")
        self.assertIsNot(rest_of(address, ()), address)

    def test_long_addresses(self):
        address = ("a", "b") * 2500
        self.assertIs(begins(address, address), True)
        self.assertIs(begins(address, address[:4999]), True)
        self.assertIs(begins(address, address[:4999] + ("c",)), False)
        self.assertIs(begins(address[:4999], address), False)
        self.assertEqual(rest_of(address, ("a",)), ("b",) + ("a", "b") * 2499)
        self.assertEqual(rest_of(address, address[:4999]), ("b",))

    def test_lists_may_be_passed(self):
        address = ["a", "b", "c"]
        self.assertIs(begins(address, ("a", "b")), True)
        self.assertIs(begins(tuple(address), ["a"]), True)
        self.assertIs(begins(address, ["b"]), False)
        self.assertEqual(rest_of(address, ["a"]), ("b", "c"))
        self.assertEqual(rest_of(address, []), ("a", "b", "c"))
        self.assertEqual(address_key(address), address_key(("a", "b", "c")))
        self.assertEqual(beginnings(address), [(), ("a",), ("a", "b"), ("a", "b", "c")])
        self.assertEqual(address, ["a", "b", "c"])

    def test_by_name(self):
        self.assertIs(begins(address=("a",), beginning=()), True)
        self.assertEqual(rest_of(address=("a", "b"), beginning=("a",)), ("b",))
        self.assertEqual(beginnings(address=()), [()])
        self.assertEqual(address_key(address=("a",)), address_key(("a",)))

    def test_beginnings(self):
        self.assertEqual(beginnings(()), [()])
        self.assertEqual(beginnings(("a",)), [(), ("a",)])
        self.assertEqual(beginnings(("b", "a", "b")), [(), ("b",), ("b", "a"), ("b", "a", "b")])
        many = beginnings(("a",) * 300)
        self.assertEqual([len(one) for one in many], list(range(301)))
        self.assertIsInstance(many, list)
        self.assertTrue(all(isinstance(one, tuple) for one in many))

    def test_beginnings_are_a_new_list(self):
        address = ("a", "b")
        beginnings(address).append("x")
        self.assertEqual(beginnings(address), [(), ("a",), ("a", "b")])


class Order(unittest.TestCase):
    def test_fewer_words_first(self):
        due = [(), ("a",), ("aa",), ("ab",), ("b",), ("z" * 12,), ("a", "a"), ("a", "aa"), ("a", "b"),
               ("aa", "a"), ("b", "a"), ("z", "z"), ("a", "a", "a"), ("a",) * 4, ("a",) * 5]
        self.assertEqual(sorted(reversed(due), key=address_key), due)
        for first, second in itertools.combinations(due, 2):
            self.assertLess(address_key(first), address_key(second))

    def test_the_key_is_a_tuple(self):
        for address in ((), ("a",), ("a", "b")):
            self.assertIsInstance(address_key(address), tuple)
        self.assertEqual(address_key(("a", "b")), address_key(("a", "b")))

    def test_long_addresses(self):
        first, second = ("b",) * 4999, ("a",) * 5000
        self.assertLess(address_key(first), address_key(second))
        self.assertLess(address_key(second), address_key(("a",) * 4999 + ("b",)))


class StrangeWords(unittest.TestCase):
    def test_examples(self):
        self.assertEqual([begins(("a", "b"), ("a",)), strange_word(["a", "b"])], [True, "aa"])

    def test_few_words(self):
        self.assertEqual(strange_word([]), "a")
        self.assertEqual(strange_word(["a"]), "aa")
        self.assertEqual(strange_word(["b"]), "a")
        self.assertEqual(strange_word(["a", "aa"]), "aaa")

    def test_gaps(self):
        self.assertEqual(strange_word(["aa"]), "a")
        self.assertEqual(strange_word(["a", "ab", "b"]), "aa")
        self.assertEqual(strange_word(["a", "aaa"]), "aa")
        self.assertEqual(strange_word(["aa", "aaa", "b", "z"]), "a")
        self.assertEqual(strange_word(["a", "aa", "ab", "aab"]), "aaa")

    def test_any_sequence_and_twice(self):
        self.assertEqual(strange_word(["aa", "b", "a", "aa", "a"]), "aaa")
        self.assertEqual(strange_word(("a",)), "aa")
        self.assertEqual(strange_word(words=["a"]), "aa")

    def test_the_words_stay_as_they_are(self):
        words = ["b", "a", "a"]
        strange_word(words)
        self.assertEqual(words, ["b", "a", "a"])

    def test_up_to_twelve_letters(self):
        short = ["a" * size for size in range(1, 13)]
        for size in range(12):
            self.assertEqual(strange_word(short[:size]), "a" * (size + 1))
            self.assertEqual(strange_word(short[:size] + short[size + 1:]), "a" * (size + 1))
        self.assertEqual(strange_word(short), "a" * 11 + "b")

    def test_behind_the_last_letter(self):
        words = ["a" * size for size in range(1, 12)] + ["a" * 11 + letter for letter in LETTERS]
        self.assertEqual(strange_word(words), "a" * 10 + "b")
        words.append("a" * 10 + "b")
        self.assertEqual(strange_word(words), "a" * 10 + "ba")
        words.extend("a" * 10 + "b" + letter for letter in LETTERS)
        self.assertEqual(strange_word(words), "a" * 10 + "c")
        words.remove("a" * 11 + "m")
        self.assertEqual(strange_word(words), "a" * 11 + "m")

    def test_many_in_a_row(self):
        # With all words of 9 and more letters that begin with 9 times a, the next one is shorter.
        words = ["a" * size for size in range(1, 10)]
        for size in (1, 2, 3):
            words.extend("a" * 9 + "".join(tail) for tail in itertools.product(LETTERS, repeat=size))
        self.assertEqual(strange_word(words), "a" * 8 + "b")
        self.assertEqual(strange_word(words[:-1]), "a" * 9 + "zzz")
        self.assertEqual(strange_word(sorted(words)[:-1]), "a" * 9 + "zzz")


if __name__ == "__main__":
    unittest.main()
