"""Whether a site is safe with a server, and which way goes wrong if it is not."""

from leadsever.ends import kind_and_front
from leadsever.errors import NotSafe
from leadsever.heads import Heads
from leadsever.heirs import fits, heir
from leadsever.pairs import wrong_of
from leadsever.readers import Reader, is_choice, visits_for
from leadsever.rounds import Rounds, first_round
from leadsever.tables import Table, is_end
from leadsever.trees import BEHIND, words_of
from leadsever.walks import is_round
from leadsever.ways import Ways
from leadsever.words import address_key, is_address, is_day

# Walks with so many redirects are looked for at first, and at last.
FEW_STEPS = 2
MOST_STEPS = 1024


def wrong_address(server, site, day):
    """The least wrong address on a day, or None if the site is safe."""
    return wrong_of(Heads(server.sources(day)), site.at(day))


def wrong_way(server, site, day):
    """A wrong way for the least wrong address on a day, or None if the site is safe."""
    address = wrong_address(server, site, day)
    if address is None:
        return None
    found = wrong_walk(server.sources(day), address, heir(site.at(day), address))
    # Nothing is promised where all wrong walks are too long.
    walk, turn = ([address], None) if found is None else found
    return (address, visits_for(server, walk, day), walk, turn)


def need_safe(server, site, day):
    """Raises NotSafe with a wrong way, if there is one."""
    way = wrong_way(server, site, day)
    if way is not None:
        raise NotSafe(way)


def wrong_walk(sources, address, due):
    """A shortest wrong walk from a wrong address with an heir, or without one (None), and its round or None.

    It is None if all wrong walks are too long.
    """
    heads = Heads([*sources, *_naming(sources, address)])
    found = None
    most = FEW_STEPS
    # Most wrong walks are short, and with many tables, the short ones alone are found far faster.
    while found is None and most <= MOST_STEPS:
        found = _wrong_steps(Ways(heads, address, most), due, most)
        most += most
    if found is None:
        return None
    fronts, turns = found
    walk = _walk_of(heads, address, fronts)
    return (walk, first_round(walk, [table for table, _ in sources]) if turns else None)


def _wrong_steps(ways, due, most):
    """The fronts of the redirects of a shortest wrong walk, and whether it goes round; or None."""
    end = _other_end(ways, due)
    if end is None:
        fronts = Rounds(ways, most).steps()
        return None if fronts is None else (fronts, True)
    to_end = ways.end_steps(end)
    fronts = Rounds(ways, len(to_end) - 1).steps()
    return (to_end, False) if fronts is None else (fronts, True)


def _naming(sources, address):
    """Sources that allow nothing, but name the words of an address that are in no rule of other sources."""
    known = words_of([table for table, _ in sources])
    strange = {word: True for word in address if word not in known}
    return [(Table([("open", (), ("to", (word,), 0))]), 1) for word in strange]


def _other_end(ways, due):
    """The nearest end to which walks from an address come that does not fit its heir, or None."""
    if due is None:
        return None
    for end in ways.ends():
        if end != kind_and_front(due):
            return end
    return None


def _walk_of(heads, address, fronts):
    """The walk from an address by the redirects that have some fronts."""
    walk = [address]
    for front in fronts:
        joint, word = heads.head(walk[-1])
        size = len(joint) if word == BEHIND else len(joint) + 1
        walk.append((*front, *walk[-1][size:]))
    return walk


def is_wrong_way(server, site, day, value):
    """Whether any value is a wrong way for some address on a day."""
    if not isinstance(value, tuple) or len(value) != 4:
        return False
    address, visits, walk, turn = value
    if not _are_addresses(walk) or not is_address(address) or walk[0] != address:
        return False
    if not _are_visits(visits, day):
        return False
    sources = server.sources(day)
    if not _is_free_walk(sources, walk) or len({each: True for each in walk[:-1]}) < len(walk) - 1:
        return False
    if turn is None:
        return _ends_wrong(server, site, day, walk) and _follow(server, day, visits, walk) == (walk, True)
    tables = [table for table, _ in sources]
    if not is_round(turn, walk, tables) or turn[1] != len(walk) - 1:
        return False
    return _follow(server, day, visits, walk)[0] == walk


def _are_addresses(value):
    """Whether any value is a list of addresses that has some."""
    if not isinstance(value, list) or not value:
        return False
    for address in value:
        if not is_address(address):
            return False
    return True


def _are_visits(value, day):
    """Whether any value is a list of visits up to a day, in order, with different addresses."""
    if not isinstance(value, list):
        return False
    for visit in value:
        if not isinstance(visit, tuple) or len(visit) != 2:
            return False
        if not is_day(visit[0]) or visit[0] > day or not is_address(visit[1]):
            return False
    keys = [(told, address_key(address)) for told, address in value]
    return keys == sorted(keys) and len({address: True for _, address in value}) == len(value)


def _is_free_walk(sources, walk):
    """Whether a list of addresses is a free walk."""
    for address, target in zip(walk, walk[1:]):
        if not is_choice(sources, address, target):
            return False
    return True


def _ends_wrong(server, site, day, walk):
    """Whether a walk leads to an end that does not fit the heir of its first address, by different addresses."""
    answer = server.answer(walk[-1], day)
    due = heir(site.at(day), walk[0])
    return is_end(answer) and due is not None and not fits(answer, due) and walk[-1] not in walk[:-1]


def _follow(server, day, visits, walk):
    """What a reader walks that makes some visits and follows an address then, and whether to an end."""
    reader = Reader(server)
    for told, address in visits:
        reader.ask(address, told)
    found, end = reader.follow(walk[0], day, steps=len(walk) - 1)
    return (found, end is not None)
