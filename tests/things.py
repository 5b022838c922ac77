"""What the tests of several files share: any things, and shelves of many forms."""

from random import Random

from tests.model import stand_fits
from unitwants.rules import Rule
from unitwants.shelves import Shelf
from unitwants.stands import Stand
from unitwants.units import Unit

NO_TEXTS = (
    None, True, False, 0, 1, -1, 10 ** 60 - 1, -(10 ** 59), (), [], ("a",), ["a"], ("a", "on"), [["a"]], (("a",),),
    [None, (True, [1, ("a", [[], ()])])], ["unit a work"], ("unit a work",), [()] * 600)
# None of these is the name of a unit on any shelf of the tests.
NO_NAMES = NO_TEXTS + (
    "", " ", "A", "a ", " a", "a b", "a\nb", "no such", "a1", "~", "x" * 9, "x" * 2000, "0", "None", "True")

SIXTEEN = ("q", "b", "zz", "a", "abcdefgh", "c", "m", "aa", "p", "d", "o", "n", "wxyz", "e", "ba", "z")


def shelf_of(**needs):
    """A shelf of units that need nothing but what is told of them."""
    return Shelf([Unit(name, needs=tuple(names)) for name, names in needs.items()])


def fields(unit):
    rule = None if unit.rule is None else repr(unit.rule)
    return (unit.name, unit.kind, unit.needs, unit.wants, unit.bars, unit.after, unit.opens, rule)


def shelf_fields(shelf):
    """All that a shelf tells, to be compared with what it tells later."""
    return [(fields(shelf.unit(name)), shelf.needing(name), shelf.barred(name), shelf.waited(name))
            for name in shelf.names()]


def some_names(source, names, own, most):
    others = [name for name in names if name != own]
    return tuple(source.sample(others, source.randint(0, min(most, len(others)))))


def some_unit(source, name, names, *, most=2):
    kind = source.choice(("work", "work", "goal", "door"))
    opens = source.choice([other for other in names if other != name]) if kind == "door" else None
    rule = Rule(first=source.randint(1, 1000), burst=source.randint(0, 20)) if source.randint(0, 1) else None
    lists = {word: some_names(source, names, name, most) for word in ("needs", "wants", "bars", "after")}
    return Unit(name, kind=kind, opens=opens, rule=rule, **lists)


def some_shelves(seed, count, *, most=2, names=("a", "b", "c", "d", "e", "f", "g"), strange=("x", "y")):
    """The same shelves each time, some units of which name strange ones that are on no shelf."""
    source = Random(seed)
    for turn in range(count):
        there = source.sample(names, source.randint(2, len(names)))
        told = [*there, *(strange if turn % 2 else ())]
        yield Shelf([some_unit(source, name, told, most=most) for name in there])


def four(stand):
    return (stand.wished, stand.up, stand.later, stand.back)


def some_of(source, names, most):
    return source.sample(names, source.randint(0, min(most, len(names))))


def with_needs(shelf, names):
    """The names and all that they need, as far as it is on the shelf."""
    found = set(names)
    while True:
        more = {other for name in found for other in shelf.unit(name).needs if shelf.has(other)} - found
        if not more:
            return found
        found |= more


def any_stand(source, shelf):
    """A stand of names on the shelf that may fit it or not."""
    names = shelf.names()
    later, back = some_of(source, names, 2), some_of(source, names, 3)
    wished = with_needs(shelf, some_of(source, names, 3) + later) - set(later) - set(back)
    up = some_of(source, names, len(names))
    return Stand(**{word: tuple(sorted(told)) for word, told in
                    (("wished", wished), ("up", up), ("later", later), ("back", back))})


def some_stand(source, shelf):
    """A stand that fits the shelf, if need be the empty one."""
    for turn in range(20):
        stand = any_stand(source, shelf)
        if stand_fits(shelf, stand):
            return stand
    return Stand()
