"""Shelves: units of unlike names, and how they stand to one another."""

from unitwants.errors import NoShelf, NoUnit

MOST = 16


class Shelf:
    """At most sixteen units by their names; never changed once made."""

    def __init__(self, units=()):
        by_name = {}
        for unit in units:
            if unit.name in by_name or len(by_name) == MOST:
                raise NoShelf(unit.name)
            by_name[unit.name] = unit
        self.by_name = by_name

    def __len__(self):
        return len(self.by_name)

    def names(self):
        """The names of the units, rising."""
        return sorted(self.by_name)

    def has(self, name):
        """Whether a unit of this name, which may be any thing, is there."""
        # Lists can't be looked up in a dict, and no thing but a text is a name.
        return isinstance(name, str) and name in self.by_name

    def unit(self, name):
        """The unit of this name."""
        if not self.has(name):
            raise NoUnit(name)
        return self.by_name[name]

    def needing(self, name):
        """Who needs it, rising."""
        self.unit(name)
        return [other for other in self.names() if name in self.by_name[other].needs]

    def barred(self, name):
        """Whom it bars or is barred by, rising."""
        bars = self.unit(name).bars
        return [other for other in self.names() if other in bars or name in self.by_name[other].bars]

    def waited(self, name):
        """For whom it waits, rising: those in its needs or its after, and the doors that open it."""
        unit = self.unit(name)
        return [other for other in self.names()
                if other in unit.needs or other in unit.after or self.by_name[other].opens == name]

    def with_unit(self, unit):
        """A new shelf with the unit, which takes the place of that of its name, if there is one."""
        others = [self.by_name[name] for name in self.by_name if name != unit.name]
        return Shelf([*others, unit])
