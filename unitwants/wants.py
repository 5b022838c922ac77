"""Wants: those of a unit, and the words by which one of them is dropped."""

from unitwants.errors import Lack
from unitwants.follows import clash_in, followed
from unitwants.knots import knot_in


def wants_of(shelf, stand, name):
    """The wants of the unit in their order, then, rising, those in back that need it."""
    own = list(shelf.unit(name).wants)
    return own + [other for other in shelf.needing(name) if other in stand.back and other not in own]


def knot_comes(shelf, stand, come):
    """Whether there would be a knot among the open ones, if these demands came."""
    on = [name for name, way in come if way == "on"]
    left = [name for name in stand.wished if name not in on and (name, "off") not in come]
    return knot_in(shelf, [name for name in on + left if name not in stand.up]) is not None


def words_of(shelf, stand, had, wanted):
    """The words that are true of the wanted one, were it put to the demands had: "lack" alone, or all others."""
    if not shelf.has(wanted):
        return ["lack"]
    try:
        come = followed(shelf, [*had, (wanted, "on")])
    except Lack:
        return ["lack"]
    fresh = [demand for demand in come if demand not in had]
    held = stand.wished + stand.later + stand.back
    truths = (
        ("clash", clash_in(come) is not None),
        ("early", any([(name, "on") in fresh for name in stand.later])),
        ("takes", any([(name, "off") in fresh for name in held])),
        ("knot", knot_comes(shelf, stand, come)))
    return [word for word, is_so in truths if is_so]
