"""What the addresses of a site ask of a table that leads the claims in one step.

A demand of an address is None, if it has no heir; ("gone",); or ("to", target), where the target is
the address of its heir. What a table answers is told in the same way: ("gone",), for nothing, too;
("to", target); or ("own",), by a rule of the site.
"""

from leadsever.courses import Course
from leadsever.ends import end_of
from leadsever.heirs import address_of, claims_table
from leadsever.trees import BEHIND, words_of
from leadsever.words import strange_word

GONE = ("gone",)
OWN = ("own",)


def met(answer, place, demand):
    """Whether an answer to an address is what this demands."""
    if demand is None:
        return True
    if demand[0] == "to" and demand[1] == place:
        return answer == OWN
    return answer == demand


def read_on(answer, word):
    """An answer by an open rule, for one more word behind."""
    return ("to", (*answer[1], word)) if answer[0] == "to" else answer


def shown_answer(answer):
    """An answer of a table, told as demands are."""
    if answer[0] == "to":
        return ("to", answer[1])
    return OWN if answer[0] in ("page", "section") else GONE


class Demands:
    """The demands of all addresses, which are read word by word."""

    def __init__(self, site, tables):
        claims = claims_table(site)
        words = words_of([claims, *tables])
        self._site = site
        self._course = Course(claims)
        self._known = {}
        # A word that is in no rule, and all words with it.
        self.strange = strange_word(words)
        self.tried = sorted([*words, self.strange])

    def after(self, stand, word):
        """The stand of the walk by the table of claims to which reading a word at a stand leads."""
        return self._course.after(stand, word)[0]

    def demand(self, stand):
        """The demand of an address that comes to a stand."""
        end = self._course.after(stand, BEHIND)[0]
        if end not in self._known:
            self._known[end] = self._find_demand(end)
        return self._known[end]

    def _find_demand(self, end):
        """The demand of an address with an end of the walk by the table of claims."""
        if end[1] == ("nothing",):
            return None
        target = address_of(self._site, end_of(end[1], end[2]))
        return GONE if target is None else ("to", target)

    def are_all_met(self, place, stand, answer):
        """Whether an answer by an open rule is what all addresses demand that begin with a place."""
        passed = {}
        rows = [(place, stand, answer)]
        while rows:
            place, stand, answer = rows.pop()
            if not met(answer, place, self.demand(stand)):
                return False
            # At an end, the rests of heirs and of targets grow alike.
            if stand[0] == "at" and (stand, answer) not in passed:
                passed[(stand, answer)] = True
                for word in self.tried:
                    rows.append(((*place, word), self.after(stand, word), read_on(answer, word)))
        return True
