"""The fewest rules that lead the claims of a site in one step, besides those of the site."""

from leadsever.demands import GONE, OWN, Demands, met, read_on
from leadsever.heirs import standing
from leadsever.words import PLACE_WORDS

# An answer that nothing demands.
WRONG = ("wrong",)


class Cover:
    """The fewest other rules for the addresses that begin with a place, for the answer there so far.

    Rules are needed only at places whose addresses ask for something else than those with a
    strange word do: what is right for a strange word is right for all words that are like it.
    """

    def __init__(self, site, inside):
        self._demands = Demands(site, [])
        self._inside = inside
        self._own = {(sort, place): True for sort, place, _ in standing(site)}
        # By places: the words that are not like strange ones, and the targets that may be right.
        self._branches = {}
        self._targets = {}
        # By places and answers: the lists of the fewest rules, or None.
        self._known = {}

    def fewest(self):
        """The list of the fewest other rules, or None."""
        return self._below((), ("at", ()), GONE)

    def _below(self, place, stand, answer):
        """The list of the fewest other rules for a place, if it is answered so by what is ahead; or None."""
        if answer[0] == "to" and answer[1] not in self._targets_at(place, stand):
            answer = WRONG
        key = (place, answer)
        if key not in self._known:
            self._known[key] = self._find_below(place, stand, answer)
        return self._known[key]

    def _find_below(self, place, stand, answer):
        """As _below, which keeps what is found."""
        if len(place) > PLACE_WORDS:
            return [] if self._demands.are_all_met(place, stand, answer) else None
        best = None
        for option, rules in self._options(place, stand, answer):
            found = self._with_answer(place, stand, option)
            if found is not None and (best is None or len(rules) + len(found) < len(best)):
                best = [*rules, *found]
        return best

    def _options(self, place, stand, answer):
        """The list of the tuples (answer, rules): what open rules at a place may make of the answer there."""
        if ("section", place) in self._own:
            return [(OWN, [])]
        found = [(answer, [])]
        if not self._inside or self._have_heirs(place, stand):
            found.append((GONE, [("open", place, GONE)]))
            for target in self._targets_at(place, stand):
                if len(target) <= PLACE_WORDS and target != place:
                    found.append((("to", target), [("open", place, ("to", target, 0))]))
        return found

    def _with_answer(self, place, stand, answer):
        """The list of the fewest rules for what begins with a place, but its own open rule, or None."""
        found = self._exact(place, stand, answer)
        strange = self._demands.strange
        after = self._demands.after(stand, strange)
        if found is None or not met(read_on(answer, strange), (*place, strange), self._demands.demand(after)):
            return None
        for word, branch in self._branches_at(place, stand):
            more = self._below((*place, word), branch, read_on(answer, word))
            if more is None:
                return None
            found = [*found, *more]
        return found

    def _exact(self, place, stand, answer):
        """The list of the exact rule that a place needs, if it needs one, or None if none is right."""
        demand = self._demands.demand(stand)
        if ("page", place) in self._own or met(answer, place, demand):
            return []
        if demand == GONE:
            return [("exact", place, GONE)]
        if demand[1] == place or len(demand[1]) > PLACE_WORDS:
            return None
        return [("exact", place, ("to", demand[1], 0))]

    def _branches_at(self, place, stand):
        """The list of the tuples (word, stand) for the words behind a place that are not like strange ones."""
        if place not in self._branches:
            strange = self._demands.strange
            usual = self._demands.after(stand, strange)
            found = []
            for word in self._demands.tried:
                after = self._demands.after(stand, word)
                if after != (*usual[:2], tuple([word if part == strange else part for part in usual[2]])):
                    found.append((word, after))
            self._branches[place] = found
        return self._branches[place]

    def _targets_at(self, place, stand):
        """A dict that has the targets as its keys to which an open rule at a place, or ahead of it, may lead."""
        if place not in self._targets:
            self._targets[place] = self._find_targets(place, stand)
        return self._targets[place]

    def _find_targets(self, place, stand):
        """As _targets_at, which keeps what is found."""
        usual = self._demands.demand(self._demands.after(stand, self._demands.strange))
        if usual is not None:
            return {usual[1][:-1]: True} if usual[0] == "to" else {}
        found = {}
        demand = self._demands.demand(stand)
        if demand is not None and demand[0] == "to":
            found[demand[1]] = True
        for word, branch in self._branches_at(place, stand):
            for target in self._targets_at((*place, word), branch):
                if target and target[-1] == word:
                    found[target[:-1]] = True
        return found

    def _have_heirs(self, place, stand):
        """Whether all addresses that begin with a place have an heir."""
        demands = self._demands
        if demands.demand(stand) is None or demands.demand(demands.after(stand, demands.strange)) is None:
            return False
        # What the walk by the claims has come back to lies in a section that stands.
        if stand != ("at", place):
            return True
        for word, branch in self._branches_at(place, stand):
            if not self._have_heirs((*place, word), branch):
                return False
        return True
