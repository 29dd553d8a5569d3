"""Sites: pages and sections, and what happened to them."""

from leadsever.errors import BadDay, BadName, BadPlace, NotStanding, Standing, TakenName, TakenPlace, UnknownName
from leadsever.words import is_day, is_place, is_word


class Site:
    """A site: pages at their addresses and sections at their places, as they came to be there."""

    def __init__(self):
        self._events = []
        # By names: the sort, and the place, None for what stands no more.
        self._sorts = {}
        self._places = {}
        # By sorts and places: the names of what stands there.
        self._standing = {}

    def put_page(self, day, name, place):
        """Puts a new page at a place."""
        self._put(day, "page", name, place)

    def put_section(self, day, name, place):
        """Puts a new section at a place."""
        self._put(day, "section", name, place)

    def _put(self, day, sort, name, place):
        """Puts something new at a place."""
        self._check_day(day)
        if not is_word(name):
            raise BadName(name)
        if not is_place(place):
            raise BadPlace(place)
        if name in self._sorts:
            raise TakenName(name)
        self._check_free(sort, place)
        self._happen((day, "put", sort, name, place))

    def move(self, day, name, place):
        """Moves something that stands to another place."""
        self._check_day(day)
        self._check_standing(name)
        self._check_place(self._sorts[name], place)
        self._happen((day, "move", self._sorts[name], name, place))

    def merge(self, day, name, other):
        """Merges something that stands into another one of the same sort that stands."""
        self._check_day(day)
        self._check_known(name)
        self._check_known(other)
        self._check_standing(name)
        self._check_standing(other)
        if name == other or self._sorts[name] != self._sorts[other]:
            raise BadName((name, other))
        self._happen((day, "merge", self._sorts[name], name, other))

    def take(self, day, name):
        """Takes something that stands away."""
        self._check_day(day)
        self._check_standing(name)
        self._happen((day, "take", self._sorts[name], name))

    def bring(self, day, name, place):
        """Brings something that stands no more back at a place."""
        self._check_day(day)
        self._check_known(name)
        if self._places[name] is not None:
            raise Standing(name)
        self._check_place(self._sorts[name], place)
        self._happen((day, "bring", self._sorts[name], name, place))

    def _check_day(self, day):
        """Raises BadDay for what is no day, or is ahead of the last one."""
        if not is_day(day) or (self._events and day < self._events[-1][0]):
            raise BadDay(day)

    def _check_known(self, name):
        """Raises UnknownName for what is no page or section of the site."""
        # A word first: what is no string may not be looked for in a dict.
        if not is_word(name) or name not in self._sorts:
            raise UnknownName(name)

    def _check_standing(self, name):
        """Raises UnknownName, or NotStanding for what stands no more."""
        self._check_known(name)
        if self._places[name] is None:
            raise NotStanding(name)

    def _check_place(self, sort, place):
        """Raises BadPlace for what is no place, TakenPlace where one of the sort stands."""
        if not is_place(place):
            raise BadPlace(place)
        self._check_free(sort, place)

    def _check_free(self, sort, place):
        """Raises TakenPlace for a place where one of the sort stands."""
        if (sort, place) in self._standing:
            raise TakenPlace(place)

    def _happen(self, event):
        """Lets something happen that may."""
        _, what, sort, name = event[:4]
        if name in self._places and self._places[name] is not None:
            del self._standing[(sort, self._places[name])]
        self._events.append(event)
        self._sorts[name] = sort
        self._places[name] = None
        if what in ("put", "move", "bring"):
            self._places[name] = event[4]
            self._standing[(sort, event[4])] = name

    @property
    def names(self):
        """The list of the names of all pages and sections, ascending."""
        return sorted(list(self._sorts))

    @property
    def last(self):
        """The last day on which something happened, or None."""
        return self._events[-1][0] if self._events else None

    def sort_of(self, name):
        """The sort of what has a name: "page" or "section"."""
        self._check_known(name)
        return self._sorts[name]

    def place_of(self, name):
        """The place where something stands now, or None."""
        self._check_known(name)
        place = self._places[name]
        return None if place is None else tuple(list(place))

    def at(self, day):
        """A new site with what happened up to a day."""
        return _site_of([event for event in self._events if event[0] <= day])

    def claims(self):
        """The list of the claims, in the sequence in which they were made."""
        found = []
        # By names: where the claim is that has not ended.
        held = {}
        for index, event in enumerate(self._events):
            _, what, sort, name = event[:4]
            if name in held:
                sort, place, name, made, _ = found[held[name]]
                found[held[name]] = (sort, place, name, made, index + 1)
                del held[name]
            if what in ("put", "move", "bring"):
                held[name] = len(found)
                found.append((sort, event[4], name, index + 1, None))
        return found

    def events(self):
        """The list of what happened, in sequence."""
        return list(self._events)

    def copied(self):
        """An equal site, which goes on by itself."""
        return _site_of(self._events)

    def __eq__(self, other):
        return isinstance(other, Site) and self._events == other._events


def _site_of(events):
    """A new site to which something happened."""
    site = Site()
    for event in events:
        site._happen(event)
    return site
