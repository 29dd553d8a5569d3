"""Height papers: what shows that all walks by sources are bounded."""

from leadsever.heads import Heads, redirects
from leadsever.trees import BEHIND
from leadsever.words import address_key, is_place


def height_paper(sources):
    """A right height paper for sources, or None if there is none."""
    heads = Heads(sources)
    heights = {}
    backs = {}
    for head in heads.heads():
        height = heads.height(head)
        if height is None:
            return None
        heights[head] = height
        backs[head] = heads.back(head)
    return (heights, backs)


def is_height_paper(sources, value):
    """Whether any value is a right height paper for sources."""
    heads = Heads(sources)
    if not _has_form(heads, value):
        return False
    return _is_right(heads, value[0], value[1])


def _has_form(heads, value):
    """Whether any value has the form of a height paper."""
    if not isinstance(value, tuple) or len(value) != 2:
        return False
    heights, backs = value
    known = heads.heads()
    for part in value:
        if not isinstance(part, dict) or len(part) != len(known):
            return False
    places = {joint: True for joint in heads.joints}
    for head in known:
        if head not in heights or not _is_height(heights[head]):
            return False
        if head not in backs or not _are_joints(backs[head], places):
            return False
        if head[1] == BEHIND and backs[head]:
            return False
    return True


def _is_height(value):
    """Whether any value is an integer from 0 on."""
    return isinstance(value, int) and not isinstance(value, bool) and value >= 0


def _are_joints(value, places):
    """Whether any value is a list of joints, in order, each once."""
    if not isinstance(value, list):
        return False
    for joint in value:
        if not is_place(joint) or joint not in places:
            return False
    keys = [address_key(joint) for joint in value]
    for before, after in zip(keys, keys[1:]):
        if before >= after:
            return False
    return True


def _is_right(heads, heights, backs):
    """Whether the heights and backs of all heads are right."""
    # By the beginnings of fronts: what reading them comes to, and the greatest height met then.
    known = {(): ([()], -1)}
    for head in heads.heads():
        for front in redirects(heads.answers(head)):
            come, most = _read(front, heights, backs, known)
            if head[1] == BEHIND:
                most = max([most, *[heights[(joint, BEHIND)] for joint in come]])
            else:
                for joint in come:
                    if joint not in backs[head]:
                        return False
            if most >= heights[head]:
                return False
    return True


def _read(front, heights, backs, known):
    """The joints to which reading a front comes, and the greatest height of a head met then."""
    for size in range(1, len(front) + 1):
        if front[:size] not in known:
            come, most = known[front[:size - 1]]
            found = {}
            for joint in come:
                head = (joint, front[size - 1])
                if head in heights:
                    most = max(most, heights[head])
                    for back in backs[head]:
                        found[back] = True
                else:
                    longer = (*joint, front[size - 1])
                    found[longer] = True
            known[front[:size]] = (list(found), most)
    return known[front]
