"""What walks over heads end in, and what reading words by sources may come to.

The lasts of a head are a list of at most one tuple (kind, front), an end to which walks over the
head come; or None if they may come to several ends.
"""

from leadsever.ends import front_behind
from leadsever.trees import BEHIND

NOTHING = ("nothing",)
GONE = ("gone",)
# Where readers may be besides the stands of point 26: at one of several ends, or on their way for ever.
TORN = ("torn",)
ENDLESS = ("endless",)


def joined(first, second):
    """The lasts of what may end as either of two says."""
    if first is None or second is None:
        return None
    if first and second and first != second:
        return None
    return first if first else second


def lasts_behind(lasts, word):
    """Lasts, for one more word behind."""
    if lasts is None:
        return None
    return [(kind, front_behind(kind, front, (word,))) for kind, front in lasts]


def shown_kind(kind):
    """The kind of an end, with what is gone in place of nothing, which fits the same heirs."""
    return GONE if kind == NOTHING else kind


class Lasts:
    """The lasts of heads, which are settled one after the other, those that are met over a head ahead of it."""

    def __init__(self, heads, backs):
        self._heads = heads
        self._backs = backs
        self._settled = {}
        # By the beginnings of fronts: the joints to which reading them comes, and the lasts met then.
        self._known = {(): ([()], [])}

    def settle(self, head, lasts):
        """Takes it that a head has these lasts."""
        self._settled[head] = lasts

    def needed(self, head):
        """The lasts of a head, by its answers and the lasts of what is met."""
        found = []
        for kind, front in self._heads.answers(head):
            if kind == ("to",):
                come, lasts = self._read(front)
                found = joined(found, lasts)
                if head[1] == BEHIND:
                    for joint in come:
                        found = joined(found, self._settled[(joint, BEHIND)])
            else:
                found = joined(found, [(shown_kind(kind), front)])
        return None if found is None else list(found)

    def _read(self, front):
        """The joints to which reading a front comes, and the lasts met then."""
        for size in range(1, len(front) + 1):
            if front[:size] not in self._known:
                come, lasts = self._known[front[:size - 1]]
                self._known[front[:size]] = self._read_word(come, lasts, front[size - 1])
        return self._known[front]

    def _read_word(self, come, lasts, word):
        """What reading a word comes to, behind what came to some joints and met some lasts."""
        found = {}
        lasts = lasts_behind(lasts, word)
        for joint in come:
            head = (joint, word)
            if head in self._settled:
                lasts = joined(lasts, self._settled[head])
                for back in self._backs[head]:
                    found[back] = True
            else:
                longer = (*joint, word)
                found[longer] = True
        return (list(found), lasts)


def backs_and_lasts(heads):
    """A tuple of two dicts, from the heads that are bounded to their backs and to their lasts."""
    known = [head for head in heads.heads() if heads.is_bounded(head)]
    backs = {head: heads.back(head) for head in known}
    found = Lasts(heads, backs)
    lasts = {}
    # All heads that are met over a head have less height.
    for head in sorted(known, key=heads.height):
        lasts[head] = found.needed(head)
        found.settle(head, lasts[head])
    return (backs, lasts)


class Here:
    """Where readers may be that read words by sources, by the backs and the lasts of heads."""

    def __init__(self, heads, backs, lasts):
        self._heads = heads
        self._places = {joint: True for joint in heads.joints}
        self._backs = backs
        self._lasts = lasts
        self._known = {}

    def after(self, stand, word):
        """The list of the stands to which reading a word at a stand may come."""
        if stand[0] == "end":
            return [("end", stand[1], front_behind(stand[1], stand[2], (word,)))]
        if stand[0] != "at":
            return [stand]
        key = (stand[1], word)
        if key not in self._known:
            self._known[key] = self._read_at(stand[1], word)
        return self._known[key]

    def _read_at(self, joint, word):
        """The list of the stands to which reading a word at a joint may come."""
        longer = (*joint, word)
        if longer in self._places:
            return [("at", longer)]
        head = self._heads.head(longer)
        if head not in self._lasts:
            return [ENDLESS]
        found = [("at", back) for back in self._backs[head]]
        if self._lasts[head] is None:
            found.append(TORN)
        else:
            for kind, front in self._lasts[head]:
                # The strange word stands for each word that is in no rule.
                found.append(("end", kind, tuple([word if part == head[1] else part for part in front])))
        return found

    def finish(self, stand):
        """Where a reader is at last if no words are behind a stand."""
        if stand[0] != "at":
            return stand
        head = (stand[1], BEHIND)
        if head not in self._lasts:
            return ENDLESS
        found = self._lasts[head]
        return ("end", *found[0]) if found else TORN
