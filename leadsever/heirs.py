"""Heirs: what is now at the addresses that a site has or had."""

from leadsever.heads import lands, leads_differ
from leadsever.tables import Table
from leadsever.words import address_key, begins

# The sorts of the rules for the claims of pages and of sections.
RULE_SORTS = {"page": "exact", "section": "open"}


def claims_table(site):
    """The table of claims of a site."""
    claims = site.claims()
    latest = {}
    for claim in claims:
        latest[claim[:2]] = claim
    into = _merged_into(site)
    rules = []
    for claim in list(latest.values()):
        if not _is_covered(claim, claims):
            sort, place, name, _, ended = claim
            rules.append((RULE_SORTS[sort], place, _claim_answer(site, sort, name, ended, into)))
    return Table(rules)


def _is_covered(claim, claims):
    """Whether the latest claim of its sort at a place ended, and lies within what a section claimed later."""
    _, place, _, _, ended = claim
    if ended is None:
        return False
    for sort, start, _, made, _ in claims:
        # If the claim is a section's, none at the very place was made later.
        if sort == "section" and made > ended and begins(place, start):
            return True
    return False


def _merged_into(site):
    """A dict from the names of what is merged or taken away to what it was merged into, or None."""
    found = {}
    for event in site.events():
        name = event[3]
        if event[1] == "merge":
            found[name] = event[4]
        elif event[1] == "take":
            found[name] = None
        elif name in found:
            del found[name]
    return found


def _claim_answer(site, sort, name, ended, into):
    """The answer of the rule for the latest claim at a place."""
    if ended is None:
        return (sort, name)
    became = name
    # Each was merged into what still stood then, so there is no circle.
    while became in into:
        became = into[became]
    if became is None:
        return tuple(["gone"])
    return ("to", site.place_of(became), 0)


def heir(site, address):
    """The heir of an address, or None."""
    end, _ = lands(claims_table(site), address)
    return None if end == ("nothing",) else end


def fits(end, heir):
    """Whether an end fits an heir."""
    end, heir = _as_tuples(end), _as_tuples(heir)
    return end == heir or (heir == ("gone",) and end == ("nothing",))


def _as_tuples(end):
    """An end with tuples where it may have been passed with lists."""
    return tuple([tuple(part) if isinstance(part, list) else part for part in end])


def address_of(site, heir):
    """The address of an heir, or None for what is gone."""
    if heir[0] == "gone":
        return None
    rest = heir[2] if heir[0] == "section" else ()
    return (*site.place_of(heir[1]), *rest)


def standing(site):
    """The list of the tuples (sort, place, name) of all that stands, by places in order."""
    found = []
    for name in site.names:
        place = site.place_of(name)
        if place is not None:
            found.append((site.sort_of(name), place, name))
    return sorted(found, key=_standing_key)


def _standing_key(row):
    """What the rows of standing are sorted by: pages before sections at the same place."""
    return (address_key(row[1]), row[0])


def heirs_differ(first, second):
    """The least address for which two sites have different heirs, or None."""
    # The walk by a table of claims always comes to an end, which is the heir, or nothing.
    return leads_differ(claims_table(first), claims_table(second))
