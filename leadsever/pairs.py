"""Where the heirs of addresses are and where readers may be, side by side, word by word."""

from leadsever.courses import Course
from leadsever.heirs import claims_table
from leadsever.lasts import ENDLESS, NOTHING, TORN, Here, backs_and_lasts
from leadsever.trees import BEHIND, words_of

# Where both are ahead of all words.
FIRST_PAIR = (("at", ()), ("at", ()))


class Pairs:
    """The pairs of stands (due, here) to which reading words comes.

    due is where the walk by the table of claims is, here where a reader may be.
    """

    def __init__(self, course, here, words, bounded):
        self._course = course
        self._here = here
        self._words = words
        # Whether all walks are bounded: then nothing is asked of what has no heir.
        self._bounded = bounded
        self._passed = {FIRST_PAIR: True}

    def search(self):
        """The least wrong address, or None if all pairs have been passed and all is right."""
        # The least address that comes to a pair stands for all: what is wrong behind another one
        # is wrong behind it, too. The search ends: where only one of a pair has come to an end,
        # reading goes on only if this is right here, and there is one such end for a joint.
        rows = [((), FIRST_PAIR)]
        while rows:
            found = {}
            for address, pair in rows:
                if self._is_wrong(pair):
                    return address
                for word in self._words:
                    longer = (*address, word)
                    for after in self._after(pair, word):
                        if after not in found or longer < found[after]:
                            found[after] = longer
            for pair in found:
                self._passed[pair] = True
            rows = sorted([(found[pair], pair) for pair in found])
        return None

    def passed(self):
        """The list of the pairs that have been passed."""
        return list(self._passed)

    def _is_wrong(self, pair):
        """Whether an address that comes to a pair is wrong."""
        due, stand = pair
        last = self._here.finish(stand)
        if last == ENDLESS:
            return True
        end = self._course.after(due, BEHIND)[0]
        return end[1] != NOTHING and end != last

    def _after(self, pair, word):
        """The list of the new pairs to which reading a word at a pair comes."""
        due = self._course.after(pair[0], word)[0]
        nothing = due[0] == "end" and due[1] == NOTHING
        if nothing and self._bounded:
            return []
        found = []
        for stand in self._here.after(pair[1], word):
            # Where both are at one end, they stay so; without an heir, each end is right.
            settled = stand[0] == "end" and (nothing or stand == due)
            if not settled and not (nothing and stand == TORN) and (due, stand) not in self._passed:
                found.append((due, stand))
        return found


def wrong_of(heads, site):
    """The least wrong address, with the sources of some heads and a site as it is now, or None."""
    table = claims_table(site)
    backs, lasts = backs_and_lasts(heads)
    bounded = len(lasts) == len(heads.heads())
    pairs = Pairs(Course(table), Here(heads, backs, lasts), heads.words_with(words_of([table])), bounded)
    return pairs.search()
