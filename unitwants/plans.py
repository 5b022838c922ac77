"""Plans: all that goes on or off with a unit, and the wants that are dropped."""

from unitwants.errors import Clash, Knot
from unitwants.follows import at_once, clash_in, followed
from unitwants.knots import knot_in
from unitwants.stands import Stand, open_in
from unitwants.wants import wants_of, words_of


class Plan:
    """Demands with their causes, and dropped wants with their words; never changed once made."""

    def __init__(self, name, way, demands, dropped=()):
        self.name = name
        self.way = way
        self.demands = demands
        self.dropped = dropped

    def __len__(self):
        return len(self.demands)


def behind(stand, plan):
    """The stand behind the plan."""
    on = [name for name, way, cause in plan.demands if way == "on"]
    off = [name for name, way, cause in plan.demands if way == "off"]
    return Stand(
        wished=tuple(sorted((set(stand.wished) | set(on)) - set(off))), up=stand.up,
        later=tuple([name for name in stand.later if name not in on + off]),
        back=tuple([name for name in stand.back if name not in on + off]))


def without_causes(demands):
    """The demands as tuples (name, way)."""
    return [(name, way) for name, way, cause in demands]


def spread(shelf, demands, name, way, cause):
    """The demands and one more, with all that follows and isn't there yet."""
    grown = [*demands, (name, way, cause)]
    at = len(demands)
    while at < len(grown):
        had = without_causes(grown)
        for other, turn in at_once(shelf, had[at]):
            if (other, turn) not in had:
                grown.append((other, turn, at))
        at += 1
    return grown


def core_on(shelf, name):
    """The demands of the core, with their causes; the refusals Lack and Clash are made here."""
    clashing = clash_in(followed(shelf, [(name, "on")]))
    if clashing is not None:
        raise Clash(clashing)
    return spread(shelf, [], name, "on", -1)


def open_behind(stand, name, demands):
    """The open ones of the stand behind the plan to turn the unit on by these demands."""
    return open_in(behind(stand, Plan(name, "on", tuple(demands))))


def next_want(shelf, stand, demands, looked):
    """Who asks next and what it wants, by how many wants of each name were looked at; None at the end."""
    for asker in sorted([name for name, way, cause in demands if way == "on"]):
        left = wants_of(shelf, stand, asker)[looked.get(asker, 0):]
        if len(left) > 0:
            return asker, left[0]
    return None


def with_wants(shelf, stand, core):
    """The demands of the core and of the wants that are taken, and the dropped ones."""
    demands = core
    dropped = []
    looked = {}
    found = next_want(shelf, stand, demands, looked)
    while found is not None:
        asker, wanted = found
        looked[asker] = looked.get(asker, 0) + 1
        had = without_causes(demands)
        if (wanted, "on") not in had:
            words = words_of(shelf, stand, had, wanted)
            if len(words) == 0:
                demands = spread(shelf, demands, wanted, "on", had.index((asker, "on")))
            else:
                dropped.append((asker, wanted, words[0]))
        found = next_want(shelf, stand, demands, looked)
    return demands, dropped


def plan_on(shelf, stand, name):
    """The plan to turn the unit on."""
    shelf.unit(name)
    core = core_on(shelf, name)
    ring = knot_in(shelf, open_behind(stand, name, core))
    if ring is not None:
        raise Knot(ring)
    demands, dropped = with_wants(shelf, stand, core)
    return Plan(name, "on", tuple(demands), tuple(dropped))


def plan_off(shelf, stand, name):
    """The plan to turn the unit off, and all that needs it."""
    shelf.unit(name)
    return Plan(name, "off", tuple(spread(shelf, [], name, "off", -1)))
