"""The joints of tables: the addresses at which what tables answer still hangs on the next word."""

from leadsever.words import address_key, beginnings

# What a head has in place of the next word, and what is read behind the last word of an address.
BEHIND = "$"


def joints(tables):
    """The list of the joints of some tables, in order."""
    return sorted(list(joints_found(tables)), key=address_key)


def joints_found(tables):
    """A dict that has the joints of some tables as its keys."""
    found = {(): True}
    for table in tables:
        for sort, place, _ in table.rules:
            for start in beginnings(place[:-1]):
                found[start] = True
            if sort == "exact":
                found[place] = True
    return found


def words_of(tables):
    """The list of the words in the places and targets of the rules of some tables, ascending."""
    found = {}
    for table in tables:
        for _, place, answer in table.rules:
            target = answer[1] if answer[0] == "to" else ()
            for word in place + target:
                found[word] = True
    return sorted(list(found))


def turning(address, tables):
    """The first beginning of an address that is no joint of some tables, or None."""
    size = turning_size(address, joints_found(tables))
    if size is None:
        return None
    return tuple(list(address[:size]))


def turning_size(address, places):
    """How many words the first beginning of an address has that is none of the joints, or None."""
    # With each joint, all its beginnings are joints: the search ends behind the longest one.
    for size in range(1, len(address) + 1):
        if tuple(address[:size]) not in places:
            return size
    return None


def turns(address, tables):
    """The list of the answers of some tables to an address."""
    return [table.answer(address) for table in tables]
