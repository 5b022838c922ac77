"""What follows from demands: tuples (name, way), way "on" or "off"."""

from unitwants.errors import Lack


def at_once(shelf, demand):
    """What follows at once, sorted; needs that are not on the shelf are left out."""
    name, way = demand
    if way == "off":
        return [(other, "off") for other in shelf.needing(name)]
    needed = [(other, "on") for other in shelf.unit(name).needs if shelf.has(other)]
    barred = [(other, "off") for other in shelf.barred(name)]
    return sorted(needed + barred)


def causes(shelf, demands):
    """By each demand that follows the one from which it follows at once, None of those handed in; nearest first."""
    found = {demand: None for demand in demands}
    front = list(found)
    while len(front) > 0:
        reached = []
        for demand in front:
            for other in at_once(shelf, demand):
                if other not in found:
                    found[other] = demand
                    reached.append(other)
        front = reached
    return found


def chain_to(found, goal):
    """The chain to the goal, a demand among the found ones, by their causes."""
    links = []
    link = goal
    while link is not None:
        links.append(link)
        link = found[link]
    return links[::-1]


def followed(shelf, demands):
    """All that follows from the demands, they too, sorted."""
    found = causes(shelf, demands)
    for name, way in found:
        needs = shelf.unit(name).needs if way == "on" else ()
        missing = [other for other in needs if not shelf.has(other)]
        if len(missing) > 0:
            raise Lack(missing[0], chain_to(found, (name, way)))
    return sorted(found)


def chain(shelf, demands, goal):
    """A shortest chain from one of the demands to the goal; None where the goal doesn't follow."""
    found = causes(shelf, demands)
    return chain_to(found, goal) if goal in found else None


def clash_in(demands):
    """The least name that stands there with both ways; None without any."""
    return min([name for name, way in demands if way == "on" and (name, "off") in demands], default=None)
