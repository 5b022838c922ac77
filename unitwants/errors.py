"""The refusals of unitwants."""


def own_copy(thing):
    """An equal thing none of whose lists is shared with the one handed in."""
    if isinstance(thing, list):
        return [own_copy(part) for part in thing]
    if isinstance(thing, tuple):
        return tuple([own_copy(part) for part in thing])
    return thing


class UnitError(ValueError):
    """The base class of the refusals, but of NoUnit and NoShelf."""


class NoTick(UnitError):
    """The tick lies ahead of that of the last deed."""


class NotReady(UnitError):
    """The unit is not ready to be begun."""


class NotBegun(UnitError):
    """The unit is no work that is starting or stopping."""


class NotOn(UnitError):
    """The unit is not on."""


class Running(UnitError):
    """The unit can't be replaced: it is not off, or its wish is not."""


class NoDoor(UnitError):
    """The unit is no door."""


class Full(UnitError):
    """The door keeps as many knocks as there is room for."""


class NoText(UnitError):
    """This is not the text of a unit or of a shelf."""


class NoRow(UnitError):
    """This is no row that a console understands."""


class Lack(UnitError):
    """The last unit of the chain needs one that is missing on the shelf."""

    def __init__(self, missing, chain):
        UnitError.__init__(self, f"needed, but not on the shelf: {missing}")
        self.missing = missing
        # The asker may change the list, so it is shared with nobody.
        self.chain = list(chain)


class Clash(UnitError):
    """The unit would have to be both on and off."""

    def __init__(self, name):
        UnitError.__init__(self, f"both on and off: {name}")
        self.name = name


class Knot(UnitError):
    """Units wait for one another in a ring."""

    def __init__(self, ring):
        UnitError.__init__(self, f"waiting in a ring: {ring}")
        # The asker may change the list, so it is shared with nobody.
        self.ring = list(ring)


class NoUnit(KeyError):
    """There is no such unit on the shelf."""

    def __init__(self, name):
        KeyError.__init__(self, f"not on the shelf: {name!r}")
        # Any thing may be asked for as a name, so lists may be within it.
        self.name = own_copy(name)


class NoShelf(LookupError):
    """The units make no shelf: a name stands there twice, or they are too many."""

    def __init__(self, name):
        LookupError.__init__(self, f"there already, or one too many: {name}")
        self.name = name
