"""Rules, the tables that they make, and how tables answer addresses."""

from leadsever.errors import BadPlace, BadRule, BadTable
from leadsever.words import PLACE_WORDS, address_key, beginnings, is_number_to, is_place, is_word
from leadsever.words import rest_of, strange_word

MOST_RULES = 40
MOST_DAYS = 10000
# The sorts of rules, each with the kind of answer that it alone may have.
OWN_KINDS = {"exact": "page", "open": "section"}


def is_rule(value):
    """Whether any value is a rule."""
    if not isinstance(value, tuple) or len(value) != 3:
        return False
    sort, place, answer = value
    if not isinstance(sort, str) or sort not in OWN_KINDS:
        return False
    return is_place(place) and _is_answer(answer, OWN_KINDS[sort])


def _is_answer(value, own_kind):
    """Whether any value is an answer for a rule of the sort with this kind of its own."""
    if not isinstance(value, tuple) or not value:
        return False
    kind = value[0]
    if kind == "gone":
        return len(value) == 1
    if kind == "to":
        return len(value) == 3 and is_place(value[1]) and is_number_to(value[2], MOST_DAYS)
    return kind == own_kind and len(value) == 2 and is_word(value[1])


def rule_key(rule):
    """What the rules of a table are sorted by: by places, exact before open."""
    # The names of the sorts happen to stand in this sequence themselves.
    return (address_key(rule[1]), rule[0])


class Table:
    """A table of rules, which answers every address. It does not change."""

    def __init__(self, rules=()):
        for rule in rules:
            if not is_rule(rule):
                raise BadRule(rule)
        found = {rule[:2]: rule for rule in rules}
        if len(rules) > MOST_RULES or len(found) < len(rules):
            raise BadTable(tuple(rules))
        self._rules = tuple(sorted(rules, key=rule_key))
        self._found = found
        # How many words the longest place has.
        self._longest = max([len(rule[1]) for rule in rules], default=0)

    @property
    def rules(self):
        """The tuple of the rules, by their places, exact before open."""
        return tuple(list(self._rules))

    def __len__(self):
        return len(self._rules)

    def __contains__(self, x):
        # For Python True equals 1: what is no rule may still equal one.
        return is_rule(x) and x in self._rules

    def __eq__(self, other):
        return isinstance(other, Table) and self._rules == other._rules

    def answer(self, address):
        """The answer to an address."""
        rule = self.rule_for(address)
        if rule is None:
            return tuple(["nothing"])
        return _answer_by(rule, address)

    def rule_for(self, address):
        """The rule that answers an address, or None."""
        key = ("exact", tuple(address[:PLACE_WORDS + 1]))
        size = min(len(address), self._longest)
        while key not in self._found:
            if size < 0:
                return None
            key = ("open", tuple(address[:size]))
            size -= 1
        return tuple(list(self._found[key]))

    def with_rule(self, rule):
        """A new table with a rule added, or put in place of the one of its sort and place."""
        if not is_rule(rule):
            raise BadRule(rule)
        rows = [old for old in self._rules if old[:2] != rule[:2]]
        # Sorted here already: Table tells the rules as it is passed them if they are too many.
        return Table(sorted([*rows, rule], key=rule_key))

    def without(self, sort, place):
        """A new table without the rule of a sort and place."""
        rows = [rule for rule in self._rules if rule[:2] != (sort, place)]
        if len(rows) == len(self._rules):
            raise BadPlace((sort, place))
        return Table(rows)


def _answer_by(rule, address):
    """The answer that a rule gives to an address that it fits."""
    sort, place, answer = rule
    if sort == "exact" or answer == ("gone",):
        return tuple(list(answer))
    rest = rest_of(address, place)
    if answer[0] == "section":
        return ("section", answer[1], rest)
    return ("to", answer[1] + rest, answer[2])


def is_end(answer):
    """Whether an answer is an end: no redirect."""
    return answer[0] != "to"


def answers_differ(first, second):
    """The least address to which two tables do not answer alike, or None."""
    found = _next_words([rule[1] for rule in first.rules + second.rules])
    suspects = []
    for start in found:
        suspects.append(start)
        # All addresses that leave the places behind this start are answered by the same two
        # rules, and whether these agree does not hang on the words behind: the least stands
        # for all of them.
        suspects.append((*start, strange_word(found[start])))
    for address in sorted(suspects, key=address_key):
        if first.answer(address) != second.answer(address):
            return tuple(list(address))
    return None


def _next_words(places):
    """A dict from the beginnings of some places to the words that follow them there."""
    found = {(): []}
    for place in places:
        for start in beginnings(place):
            if start not in found:
                found[start] = []
                found[start[:-1]].append(start[-1])
    return found
