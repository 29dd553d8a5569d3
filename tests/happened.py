"""Sites to which things happened by chance, and what points 15 to 17 say of them, in the plainest way."""

from leadsever.errors import LeadError
from leadsever.sites import Site
from leadsever.tables import Table
from plain import all_addresses


def happen(site, event):
    """Lets an event happen to a site, by its public methods."""
    day, what, sort, name = event[:4]
    if what == "put":
        (site.put_page if sort == "page" else site.put_section)(day, name, event[4])
    elif what == "move":
        site.move(day, name, event[4])
    elif what == "merge":
        site.merge(day, name, event[4])
    elif what == "take":
        site.take(day, name)
    else:
        site.bring(day, name, event[4])


def some_site(pick, words, tries, longest=2, names="pqrstuvw"):
    """A site to which things happened by chance, for so many tries, of which some are refused."""
    site = Site()
    places = list(all_addresses(words, longest))
    day = 0
    for _ in range(tries):
        day += pick.choice([0, 0, 1, 3])
        what = pick.choice(["put", "put", "move", "move", "merge", "take", "bring"])
        last = pick.choice(names) if what == "merge" else pick.choice(places)
        try:
            happen(site, (day, what, pick.choice(["page", "section"]), pick.choice(names), last))
        except LeadError:
            pass
    return site


def plain_claims(events):
    """Point 15: the claims, from what happened."""
    found = []
    for many, event in enumerate(events, 1):
        for claim in found:
            if claim[2] == event[3] and claim[4] is None:
                claim[4] = many
        if event[1] in ("put", "move", "bring"):
            found.append([event[2], event[4], event[3], many, None])
    return [tuple(claim) for claim in found]


def plain_became(events, name):
    """Point 15: what became of a page or section, or None; and where it stands."""
    last = [event for event in events if event[3] == name][-1]
    if last[1] == "take":
        return None
    if last[1] == "merge":
        return plain_became(events, last[4])
    return (name, last[4])


def plain_claims_table(site):
    """Point 16: the table of claims."""
    events = site.events()
    claims = plain_claims(events)
    rules = []
    for sort, place in {claim[:2] for claim in claims}:
        _, _, name, _, ended = max((claim for claim in claims if claim[:2] == (sort, place)), key=lambda claim: claim[3])
        rule_sort = "exact" if sort == "page" else "open"
        if ended is None:
            rules.append((rule_sort, place, (sort, name)))
            continue
        shorter = [place[:size] for size in range(len(place) + (sort == "page"))]
        if any(claim[0] == "section" and claim[1] in shorter and claim[3] > ended for claim in claims):
            continue
        became = plain_became(events, name)
        rules.append((rule_sort, place, ("to", became[1], 0) if became else ("gone",)))
    return Table(rules)


def plain_heir(table, address):
    """Point 17: the heir of an address, by walking."""
    while table.answer(address)[0] == "to":
        address = table.answer(address)[1]
    return None if table.answer(address) == ("nothing",) else table.answer(address)
