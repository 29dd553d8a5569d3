"""How walks by one table go on, word by word, however long they are."""

from leadsever.ends import front_behind, kind_and_front
from leadsever.trees import BEHIND, joints_found, words_of
from leadsever.words import strange_word

# Where the walk by a table is if it never comes back from a head, nor to an end.
NEVER = ("never",)


class Course:
    """The walks by one table.

    A stand is ("at", joint), ("end", kind, front) or ("never",): where a walk is after all that
    it does ahead of the words that are still to come.
    """

    def __init__(self, table):
        self._table = table
        self._places = joints_found([table])
        self._strange = strange_word(words_of([table]))
        self._told = {BEHIND: True}
        for _, place, _ in table.rules:
            for word in place:
                self._told[word] = True
        # From the heads that have been settled to tuples (stand, steps).
        self._settled = {}

    def after(self, stand, word):
        """The stand to which reading a word at a stand leads, and how many redirects that takes."""
        head = self._head_at(stand, word)
        if head is not None and head not in self._settled:
            self._settle(head)
        return self._read(stand, word, head)

    def _head_at(self, stand, word):
        """The head over which the walk goes that reads a word at a stand, or None."""
        if stand[0] != "at" or (*stand[1], word) in self._places:
            return None
        # What is in no place has the same effect everywhere, so one of them stands for all.
        return (stand[1], word if word in self._told else self._strange)

    def _read(self, stand, word, head):
        """As after, if the head is settled."""
        if stand[0] == "end":
            words = () if word == BEHIND else (word,)
            return (("end", stand[1], front_behind(stand[1], stand[2], words)), 0)
        if stand[0] == "never":
            return (stand, 0)
        if head is None:
            return (("at", (*stand[1], word)), 0)
        found, steps = self._settled[head]
        if found[0] == "end" and head[1] != word:
            front = tuple([word if part == head[1] else part for part in found[2]])
            found = ("end", found[1], front)
        return (found, steps)

    def _settle(self, head):
        """Finds what comes of a head, and of all heads that must be known for it."""
        chain = [head]
        waiting = {head: True}
        while chain:
            need = self._settle_last(chain[-1])
            if need is None:
                del waiting[chain.pop()]
            elif need in waiting:
                # Each of these walks comes to the next one, and the last one to an earlier one.
                for each in chain:
                    self._settled[each] = (NEVER, 0)
                chain = []
            else:
                waiting[need] = True
                chain.append(need)

    def _settle_last(self, head):
        """Settles a head, or returns the head that must be settled first."""
        joint, word = head
        kind, front = kind_and_front(self._table.answer(joint if word == BEHIND else (*joint, word)))
        if kind != ("to",):
            self._settled[head] = (("end", kind, front), 0)
            return None
        stand, steps = ("at", ()), 1
        for part in (*front, BEHIND) if word == BEHIND else front:
            need = self._head_at(stand, part)
            if need is not None and need not in self._settled:
                return need
            stand, more = self._read(stand, part, need)
            steps += more
        self._settled[head] = (stand, steps)
        return None
