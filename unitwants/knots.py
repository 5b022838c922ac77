"""Knots: rings of units that wait for one another; the order of those without any."""

from unitwants.errors import Knot


def next_in(waiting, order):
    """The least name that is not in the order yet, but all that it waits for; None without any."""
    for name in sorted(waiting):
        if name not in order and all([other in order for other in waiting[name]]):
            return name
    return None


def free_order(shelf, names):
    """The order of the names as far as it goes: those in a knot, or that wait for one, are left out."""
    waiting = {name: [other for other in shelf.waited(name) if other in names] for name in names}
    order = []
    least = next_in(waiting, order)
    while least is not None:
        order.append(least)
        least = next_in(waiting, order)
    return order


def ring_in(shelf, stuck):
    """A ring of the stuck names, each of which waits for one of them, so that the way on never ends."""
    trail = []
    name = stuck[0]
    while name not in trail:
        trail.append(name)
        name = [other for other in shelf.waited(name) if other in stuck][0]
    return trail[trail.index(name):]


def knot_in(shelf, names):
    """A knot of the names; None without any."""
    order = free_order(shelf, names)
    stuck = [name for name in names if name not in order]
    return ring_in(shelf, stuck) if len(stuck) > 0 else None


def order_of(shelf, names):
    """The order of the names, the least one first wherever several may come next."""
    ring = knot_in(shelf, names)
    if ring is not None:
        raise Knot(ring)
    return free_order(shelf, names)
