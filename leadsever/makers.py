"""Plans that are made: which redirects to give from a day on, and for how long."""

from leadsever.fewest import fewest_table
from leadsever.plans import Plan, turning_days
from leadsever.servers import Server
from leadsever.tables import is_end


def made_plan(site, day, wished):
    """A plan for a site from a day on, with redirects that last for as many days as wished, or None."""
    server = Server()
    for later in turning_days(server, site, day):
        table = fewest_table(site.at(later), inside=True)
        if table is None:
            return None
        server.set_table(later, table)
    # All redirects are passing, and each leads to the heir's address, so the site is safe.
    plan = Plan(server, site)
    for later in server.days:
        for rule in server.table(later).rules:
            if not is_end(rule[2]):
                plan.lengthen(later, rule, wished)
    return plan.server()
