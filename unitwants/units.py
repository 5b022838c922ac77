"""Units: works, goals and doors, and what each tells of the others."""


class Unit:
    """A unit as it stands on a shelf; never changed once made."""

    def __init__(self, name, *, kind="work", needs=(), wants=(), bars=(), after=(), opens=None, rule=None):
        self.name = name
        self.kind = kind
        self.needs = needs
        self.wants = wants
        self.bars = bars
        self.after = after
        self.opens = opens
        self.rule = rule

    def __eq__(self, other):
        return (isinstance(other, Unit) and self.name == other.name and self.kind == other.kind
                and self.needs == other.needs and self.wants == other.wants
                and self.bars == other.bars and self.after == other.after
                and self.opens == other.opens and self.rule == other.rule)

    def __repr__(self):
        return f"Unit({self.name})"
