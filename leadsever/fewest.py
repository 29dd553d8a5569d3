"""Tables that lead the claims of a site in one step, with as few rules as possible."""

from leadsever.covers import Cover
from leadsever.demands import Demands, met, shown_answer
from leadsever.heirs import RULE_SORTS, standing
from leadsever.tables import Table
from leadsever.trees import joints_found


def own_rules(site):
    """The table with the rules of a site: one for each page and section that stand."""
    return Table([(RULE_SORTS[sort], place, (sort, name)) for sort, place, name in standing(site)])


def leads_claims(site, table):
    """Whether a table leads the claims of a site in one step."""
    own = own_rules(site)
    for rule in own.rules:
        if rule not in table:
            return False
    for rule in table.rules:
        if rule[2][0] in RULE_SORTS and rule not in own:
            return False
    demands = Demands(site, [table])
    places = joints_found([table])
    rows = [((), ("at", ()))]
    while rows:
        place, stand = rows.pop()
        if not met(shown_answer(table.answer(place)), place, demands.demand(stand)):
            return False
        for word in demands.tried:
            longer, after = (*place, word), demands.after(stand, word)
            if longer in places:
                rows.append((longer, after))
            elif not demands.are_all_met(longer, after, shown_answer(table.answer(longer))):
                return False
    return True


def fewest_table(site, *, inside=False):
    """A table that leads the claims of a site in one step, with the fewest other rules, or None."""
    found = Cover(site, inside).fewest()
    return None if found is None else Table([*own_rules(site).rules, *found])
