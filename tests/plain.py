"""What DOC.md says, once more, in the plainest way; and tables by chance to try it with."""

import itertools

from leadsever.tables import Table
from leadsever.words import strange_word


def key(address):
    return (len(address), address)


def all_addresses(words, longest, shortest=0):
    """All addresses of some words, ascending."""
    for size in range(shortest, longest + 1):
        yield from itertools.product(sorted(words), repeat=size)


def plain_joints(tables):
    """Point 13: what the joints of some tables are."""
    found = {()}
    for table in tables:
        for sort, place, _ in table.rules:
            found.update(place[:size] for size in range(len(place)))
            if sort == "exact":
                found.add(place)
    return found


def plain_words(tables):
    found = set()
    for table in tables:
        for _, place, answer in table.rules:
            found.update(place)
            if answer[0] == "to":
                found.update(answer[1])
    return found


def plain_head(address, tables):
    """Point 13, with the strange word for those that are in no rule."""
    places = plain_joints(tables)
    size = 0
    while size < len(address) and all(address[:many] in places for many in range(size + 2)):
        size += 1
    if size == len(address):
        return (address, "$")
    words = plain_words(tables)
    word = address[size]
    return (address[:size], word if word in words else strange_word(sorted(words)))


def plain_is_round(triple, walk, places):
    """Point 12, for integers i, j and n, and a set of joints."""
    i, j, n = triple
    if not 0 <= i < j < len(walk) or n < 0:
        return False
    if walk[i] == walk[j] and n == len(walk[i]):
        return True
    if len(walk[i]) < n:
        return False
    rest = walk[i][n:]
    fronts = []
    for address in walk[i:j + 1]:
        if len(address) < len(rest) or address[len(address) - len(rest):] != rest:
            return False
        fronts.append(address[:len(address) - len(rest)])
    return not any(front in places for front in fronts[:-1]) and fronts[-1][:n] == fronts[0]


def plain_walked(table, address, steps):
    """Points 7 and 12: what walked is to return, by trying everything."""
    walk = [address]
    while table.answer(walk[-1])[0] == "to" and len(walk) <= steps + 1:
        walk.append(table.answer(walk[-1])[1])
    if len(walk) <= steps + 1:
        return (walk, table.answer(walk[-1]), None)
    walk = walk[:steps + 1]
    places = plain_joints([table])
    for j in range(1, steps + 1):
        for i in range(j):
            for n in range(len(walk[i]) + 1):
                if plain_is_round((i, j, n), walk, places):
                    return (walk[:j + 1], None, (i, j, n))
    return (walk, None, None)


def plain_choices(sources, address):
    """Point 24: the allowed answers to an address, by the sources, each where it comes first."""
    found = []
    for at, (table, age) in enumerate(sources):
        answer = table.answer(address)
        if at == 0 or (answer[0] == "to" and answer[2] >= max(age, 1)):
            found.append(answer)
    return found


def some_rules(pick, words, many, longest=2, ends=1, days=(0,)):
    """Rules by chance; the more ends, the fewer redirects."""
    found = {}
    places = list(all_addresses(words, longest))
    for _ in range(many):
        sort = pick.choice(["exact", "open", "open"])
        own = ("page", pick.choice("pq")) if sort == "exact" else ("section", pick.choice("st"))
        answers = [("to", pick.choice(places), pick.choice(days)) for _ in range(3)]
        answers.extend([own, ("gone",)] * ends)
        place = pick.choice(places)
        found[sort, place] = (sort, place, pick.choice(answers))
    return list(found.values())


def some_table(pick, words, many, **more):
    return Table(some_rules(pick, words, many, **more))
