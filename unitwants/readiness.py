"""Who stands and who is ready, by the states and the wishes of the units on a shelf."""


def next_standing(shelf, states, found):
    """Those that stand by what was found to stand already, and were not found yet."""
    firm = [name for name in found if states[name] == "on"]
    return [name for name in shelf.names() if states[name] in ("starting", "on") and name not in found
            and all([other in firm for other in shelf.unit(name).needs])]


def standing_in(shelf, states):
    """Those that stand, rising: starting or on, and all that they need are on and stand."""
    # Found from those that need nothing onwards, so none of a ring of needs ever stands.
    found = []
    more = next_standing(shelf, states, found)
    while len(more) > 0:
        found = found + more
        more = next_standing(shelf, states, found)
    return sorted(found)


def all_off(states, names):
    """Whether all of the names are off."""
    return all([states[name] == "off" for name in names])


def may_stop(shelf, states, wishes, standing, name):
    """Whether the unit is ready to stop."""
    return (states[name] in ("starting", "on") and (wishes[name] != "on" or name not in standing)
            and all_off(states, shelf.needing(name)))


def may_start(shelf, states, wishes, standing, name):
    """Whether the unit is ready to start."""
    firm = [other for other in standing if states[other] == "on"]
    held_up = [other for other in shelf.waited(name) if other not in firm and wishes[other] == "on"]
    return (states[name] == "off" and wishes[name] == "on" and len(held_up) == 0
            and all([other in firm for other in shelf.unit(name).needs])
            and all_off(states, shelf.needing(name) + shelf.barred(name)))


def ready_in(shelf, states, wishes):
    """All that are ready, a sorted list of tuples (way, name)."""
    standing = standing_in(shelf, states)
    starts = [("start", name) for name in shelf.names() if may_start(shelf, states, wishes, standing, name)]
    stops = [("stop", name) for name in shelf.names() if may_stop(shelf, states, wishes, standing, name)]
    return starts + stops
