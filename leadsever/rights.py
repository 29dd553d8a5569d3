"""Right papers: what shows that a site is safe with a server."""

from leadsever.courses import Course
from leadsever.heads import Heads
from leadsever.heights import height_paper, is_height_paper
from leadsever.heirs import claims_table
from leadsever.lasts import GONE, NOTHING, Here, Lasts, backs_and_lasts
from leadsever.pairs import FIRST_PAIR, Pairs
from leadsever.trees import BEHIND, joints_found
from leadsever.words import is_address, is_word


def right_paper(server, site, day):
    """A right paper for a server and a site on a day, or None if the site is not safe."""
    table = claims_table(site.at(day))
    sources = [*server.sources(day), (table, 1)]
    found = height_paper(sources)
    if found is None:
        return None
    heads = Heads(sources)
    backs, lasts = backs_and_lasts(heads)
    pairs = Pairs(Course(table), Here(heads, backs, lasts), heads.words, True)
    if pairs.search() is not None:
        return None
    return (found[0], found[1], lasts, pairs.passed())


def is_right_paper(server, site, day, value):
    """Whether any value is a right paper for a server and a site on a day."""
    if not isinstance(value, tuple) or len(value) != 4:
        return False
    heights, backs, ends, pairs = value
    table = claims_table(site.at(day))
    sources = [*server.sources(day), (table, 1)]
    if not is_height_paper(sources, (heights, backs)):
        return False
    heads = Heads(sources)
    if not _have_form(heads, ends) or not _are_right(heads, backs, ends):
        return False
    places = {joint: True for joint in heads.joints}
    if not _are_pairs(pairs, joints_found([table]), places):
        return False
    return Check(Course(table), Here(heads, backs, ends), heads.words, pairs).is_right()


def _is_end(kind, front):
    """Whether any values are the kind and the front of an end that is not nothing."""
    if not isinstance(kind, tuple) or not isinstance(front, tuple):
        return False
    if len(kind) == 2 and is_word(kind[1]):
        return (kind[0] == "page" and front == ()) or (kind[0] == "section" and is_address(front))
    return kind == GONE and front == ()


def _have_form(heads, value):
    """Whether any value is a dict from all heads to lists of at most one end, or None."""
    known = heads.heads()
    if not isinstance(value, dict) or len(value) != len(known):
        return False
    for head in known:
        if head not in value:
            return False
        if value[head] is not None and not _is_end_list(value[head]):
            return False
    return True


def _is_end_list(value):
    """Whether any value is a list of at most one end."""
    if not isinstance(value, list) or len(value) > 1:
        return False
    for end in value:
        if not isinstance(end, tuple) or len(end) != 2 or not _is_end(end[0], end[1]):
            return False
    return True


def _are_right(heads, backs, ends):
    """Whether the ends of all heads are right, by the answers and the ends of what is met."""
    lasts = Lasts(heads, backs)
    for head in heads.heads():
        lasts.settle(head, ends[head])
    for head in heads.heads():
        needed = lasts.needed(head)
        if ends[head] is not None and (needed is None or (needed and needed != ends[head])):
            return False
    return True


def _are_pairs(value, due_places, places):
    """Whether any value is a list of tuples of two stands, which has the first pair."""
    if not isinstance(value, list):
        return False
    for pair in value:
        if not isinstance(pair, tuple) or len(pair) != 2:
            return False
        if not _is_stand(pair[0], due_places) or not _is_stand(pair[1], places):
            return False
    return FIRST_PAIR in value


def _is_stand(value, places):
    """Whether any value is a stand, with one of some joints if it is at one."""
    if not isinstance(value, tuple):
        return False
    if len(value) == 2 and value[0] == "at":
        return is_address(value[1]) and value[1] in places
    return len(value) == 3 and value[0] == "end" and _is_end(value[1], value[2])


class Check:
    """Whether the pairs of a paper are right, whose other parts are."""

    def __init__(self, course, here, words, pairs):
        self._course = course
        self._here = here
        self._words = words
        self._pairs = {pair: True for pair in pairs}

    def is_right(self):
        """Whether what each pair asks for holds."""
        for pair in self._pairs:
            if not self._is_right_behind(pair):
                return False
            for word in self._words:
                if not self._is_right_after(pair, word):
                    return False
        return True

    def _is_right_behind(self, pair):
        """Whether all is right if no words are behind a pair."""
        end = self._course.after(pair[0], BEHIND)[0]
        return end[1] == NOTHING or end == self._here.finish(pair[1])

    def _is_right_after(self, pair, word):
        """Whether a word read at a pair leads to pairs, or to one end."""
        due = self._course.after(pair[0], word)[0]
        if due[0] == "end" and due[1] == NOTHING:
            return True
        for stand in self._here.after(pair[1], word):
            if (due, stand) not in self._pairs and not (due[0] == "end" and due == stand):
                return False
        return True
