"""The looker: promise 16."""

import inspect
import unittest
from random import Random

from tests.model import paper_is_so, plan_told, plans_in_any_order, told_at_once, waits_for, wants_told, words_told
from tests.things import NO_NAMES, four, shelf_fields, shelf_of, some_shelves, some_stand
from unitwants.looker import holds
from unitwants.papers import paper_on
from unitwants.shelves import Shelf
from unitwants.stands import Stand
from unitwants.units import Unit

WORDS = ("plan", "lack", "clash", "knot", "early", "takes")
# In a paper these stand in the place of any part, spoiling it or not.
OTHER_PARTS = (None, True, False, -1, 0, 1, 2, 10 ** 59, "", "a", "b", "x", "zz", "on", "off", *WORDS, (), [], ("a",),
               ("a", "on"), ["a", "on"], ("a", "on", -1), (("a", "on", -1),), ("a", "b", "lack"), (("a", "on"),))


def spoilt(paper):
    """The paper with each of its parts, down to the innermost, put otherwise, left out, doubled, moved or listed."""
    if not isinstance(paper, tuple):
        return
    yield list(paper)
    yield (*paper, None)
    for at, part in enumerate(paper):
        ahead, rest = paper[:at], paper[at + 1:]
        yield ahead + rest
        yield (*ahead, part, part, *rest)
        if rest:
            yield (*ahead, rest[0], part, *rest[1:])
        for other in OTHER_PARTS:
            if repr(other) != repr(part):
                yield (*ahead, other, *rest)
        for inner in spoilt(part):
            yield (*ahead, inner, *rest)


def some_chain(source, shelf, links):
    """The chain with some round ways in it, if there are any."""
    told = list(links)
    for turn in range(4):
        at = source.randrange(len(told))
        round_way = [told[at]]
        for step in range(6):
            following = told_at_once(shelf, round_way[-1])
            if not following:
                break
            round_way.append(source.choice(following))
            if round_way[-1] == told[at]:
                told[at:at + 1] = round_way
                break
    return tuple(told)


def some_order(source, shelf, names):
    order = []
    while len(order) < len(names):
        left = [name for name in names if name not in order]
        order.append(source.choice([n for n in left if not any(waits_for(shelf, n, other) for other in left)]))
    return tuple(order)


def wanting_shelf(source):
    """A shelf of few needs and many wants that bar one another, so that unlike plans can be for one name."""
    names = "abcdef"
    units = []
    for name in names:
        others = [other for other in names if other != name]
        lists = {word: tuple(source.sample(others, source.choice(many))) for word, many in (
            ("needs", (0, 0, 0, 1)), ("wants", (0, 2, 3)), ("bars", (0, 0, 1)), ("after", (0, 1)))}
        units.append(Unit(name, **lists))
    return Shelf(units)


def some_causes(source, shelf, stand, name, plan):
    """The plan in any order, by any causes."""
    rows = [(name, "on", -1)]
    while len(rows) < len(plan):
        had = [row[:2] for row in rows]
        open_rows = [(*other, at) for at, demand in enumerate(had) for other in sorted(plan) if other not in had
                     and (other in told_at_once(shelf, demand)
                          or demand[1] == other[1] == "on" and other[0] in wants_told(shelf, stand, demand[0]))]
        rows.append(source.choice(open_rows))
    return tuple(rows)


def some_plan_papers(source, shelf, stand, name):
    """Papers of each plan that can be, by hand."""
    for plan in plans_in_any_order(shelf, stand, name):
        on = {other for other, way in plan if way == "on"}
        off = {other for other, way in plan if way == "off"}
        dropped = [(asker, want, source.choice(words_told(shelf, stand, plan, want))) for asker in sorted(on)
                   for want in wants_told(shelf, stand, asker) if want not in on]
        source.shuffle(dropped)
        names = sorted((set(stand.wished) | on) - off - set(stand.up))
        yield ("plan", name, some_causes(source, shelf, stand, name, plan), tuple(dropped),
               some_order(source, shelf, names))


class LookerCase(unittest.TestCase):
    def assert_so(self, shelf, stand, *papers):
        for paper in papers:
            self.assertIs(holds(shelf, stand, paper), True, paper)

    def assert_not(self, shelf, stand, *papers):
        for paper in papers:
            self.assertIs(holds(shelf, stand, paper), False, paper)

    def assert_each_spoilt_as_the_model_tells(self, shelf, stand, paper):
        before = (shelf_fields(shelf), four(stand))
        for other in spoilt(paper):
            self.assertIs(holds(shelf, stand, other), paper_is_so(shelf, stand, other), other)
        self.assertEqual((shelf_fields(shelf), four(stand)), before)


class PlanPapers(LookerCase):
    def test_what_is_told(self):
        shelf = Shelf([Unit("a", needs=("b",), wants=("x", "c")), Unit("b"), Unit("c", bars=("a",))])
        self.assert_so(shelf, Stand(), paper_on(shelf, Stand(), "a"))
        self.assert_so(shelf, Stand(), ("plan", "a", (("a", "on", -1), ("b", "on", 0), ("c", "off", 0)),
                                        (("a", "c", "clash"), ("a", "x", "lack")), ("b", "a")))

    def test_wants_put_in_another_order(self):
        shelf = Shelf([Unit("a", wants=("b", "c")), Unit("b", bars=("c",)), Unit("c")])
        self.assert_so(
            shelf, Stand(),
            ("plan", "a", (("a", "on", -1), ("b", "on", 0), ("c", "off", 1)), (("a", "c", "clash"),), ("a", "b")),
            ("plan", "a", (("a", "on", -1), ("c", "on", 0), ("b", "off", 1)), (("a", "b", "clash"),), ("c", "a")))
        self.assert_not(
            shelf, Stand(), ("plan", "a", (("a", "on", -1),), (), ("a",)),
            ("plan", "a", (("a", "on", -1),), (("a", "b", "clash"), ("a", "c", "clash")), ("a",)),
            ("plan", "a", (("a", "on", -1), ("b", "on", 0), ("c", "on", 0)), (), ("a", "b", "c")))

    def test_other_causes(self):
        shelf = Shelf([Unit("a", needs=("b", "c"), wants=("d",)), Unit("b", needs=("c",), wants=("d",)),
                       Unit("c", wants=("e",), bars=("f",)), Unit("d", needs=("c",), bars=("f",)), Unit("e"),
                       Unit("f")])
        rows = (("a", "on", -1), ("c", "on", 0), ("b", "on", 0), ("d", "on", 2), ("e", "on", 1), ("f", "off", 3))
        order = ("c", "b", "a", "d", "e")
        self.assert_so(shelf, Stand(), ("plan", "a", rows, (), order),
                       ("plan", "a", (*rows[:3], ("d", "on", 0), ("e", "on", 1), ("f", "off", 1)), (), order))
        for row in (("d", "on", 1), ("d", "on", 3), ("d", "on", 4), ("d", "on", -1), ("d", "on", False),
                    ("d", "on", None), ("d", "on", "2"), ("d", "on"), ("d", "on", 2, 2), ["d", "on", 2]):
            self.assert_not(shelf, Stand(), ("plan", "a", (*rows[:3], row, *rows[4:]), (), order))

    def test_truths_are_no_places(self):
        shelf = shelf_of(a="b", b="c", c="")
        rows = (("a", "on", -1), ("b", "on", 0), ("c", "on", 1))
        order = ("c", "b", "a")
        self.assert_so(shelf, Stand(), ("plan", "a", rows, (), order))
        self.assert_not(shelf, Stand(), ("plan", "a", (rows[0], ("b", "on", False), rows[2]), (), order),
                        ("plan", "a", (rows[0], rows[1], ("c", "on", True)), (), order))

    def test_a_want_is_a_cause_of_on_alone(self):
        shelf = Shelf([Unit("a", wants=("b",)), Unit("b")])
        rows = (("a", "on", -1), ("b", "off", 0))
        self.assert_not(shelf, Stand(), ("plan", "a", rows, (("a", "b", "clash"),), ("a",)))

    def test_those_in_back_are_wants(self):
        shelf = shelf_of(a="", b="a", c="b")
        rows = (("a", "on", -1), ("b", "on", 0), ("c", "on", 1))
        order = ("a", "b", "c")
        self.assert_so(shelf, Stand(back=("b", "c")), ("plan", "a", rows, (), order))
        self.assert_so(shelf, Stand(back=("b",)), ("plan", "a", rows[:2], (), order[:2]))
        self.assert_not(shelf, Stand(back=("b",)), ("plan", "a", rows, (), order),
                        ("plan", "a", rows[:1], (), order[:1]))
        self.assert_not(shelf, Stand(), ("plan", "a", rows[:2], (), order[:2]))

    def test_other_true_words(self):
        # b takes d, comes with c that is later, makes a ring with a and is barred with it.
        shelf = Shelf([Unit("a", wants=("b",), after=("b",)), Unit("b", needs=("c",), bars=("a", "d"), after=("a",)),
                       Unit("c"), Unit("d")])
        stand = Stand(later=("c",), wished=("d",))
        rows = (("a", "on", -1), ("b", "off", 0))
        for word in ("clash", "early", "takes", "knot"):
            self.assert_so(shelf, stand, ("plan", "a", rows, (("a", "b", word),), ("a", "d")))
        for word in ("lack", "", "plan", "clash ", None, True, 0, ("clash",)):
            self.assert_not(shelf, stand, ("plan", "a", rows, (("a", "b", word),), ("a", "d")))

    def test_lack_bars_the_other_words(self):
        shelf = Shelf([Unit("a", wants=("b", "y")), Unit("b", needs=("x",), bars=("a",))])
        rows = (("a", "on", -1), ("b", "off", 0))
        self.assert_so(shelf, Stand(), ("plan", "a", rows, (("a", "b", "lack"), ("a", "y", "lack")), ("a",)),
                       ("plan", "a", rows, (("a", "y", "lack"), ("a", "b", "lack")), ("a",)))
        self.assert_not(shelf, Stand(), ("plan", "a", rows, (("a", "b", "clash"), ("a", "y", "lack")), ("a",)),
                        ("plan", "a", rows, (("a", "b", "lack"), ("a", "y", "clash")), ("a",)))

    def test_words_of_names_that_the_plan_has_with_the_other_way(self):
        # c is later and goes off by the core; d is wished and comes on by it.
        shelf = Shelf([Unit("a", needs=("d",), wants=("b", "e"), bars=("c",)), Unit("b", needs=("c",)), Unit("c"),
                       Unit("d"), Unit("e", bars=("d",))])
        stand = Stand(later=("c",), wished=("d",))
        rows = (("a", "on", -1), ("d", "on", 0), ("c", "off", 0), ("b", "off", 2), ("e", "off", 1))
        for word in ("clash", "early"):
            for other in ("clash", "takes"):
                dropped = (("a", "b", word), ("a", "e", other))
                self.assert_so(shelf, stand, ("plan", "a", rows, dropped, ("d", "a")))
        for dropped in ((("a", "b", "takes"), ("a", "e", "takes")), (("a", "b", "early"), ("a", "e", "early")),
                        (("a", "b", "early"), ("a", "e", "knot"))):
            self.assert_not(shelf, stand, ("plan", "a", rows, dropped, ("d", "a")))

    def test_early_and_takes_by_the_core_alone(self):
        shelf = Shelf([Unit("a", needs=("l",), bars=("w",), wants=("b",)), Unit("b", bars=("w",), needs=("l",)),
                       Unit("l"), Unit("w"), Unit("c", wants=("l",)), Unit("d", wants=("b",))])
        stand = Stand(later=("l",), wished=("w",))
        rows = (("a", "on", -1), ("l", "on", 0), ("w", "off", 0), ("b", "on", 0))
        self.assert_so(shelf, stand, ("plan", "a", rows, (), ("l", "a", "b")))
        self.assert_not(shelf, stand, ("plan", "c", (("c", "on", -1), ("l", "on", 0)), (), ("c", "l", "w")))
        self.assert_so(shelf, stand, ("plan", "c", (("c", "on", -1),), (("c", "l", "early"),), ("c", "w")))
        self.assert_not(shelf, Stand(wished=("w",)), (
            "plan", "d", (("d", "on", -1), ("b", "on", 0), ("w", "off", 1), ("l", "on", 1)), (), ("d", "l", "b")))
        self.assert_so(shelf, Stand(), (
            "plan", "d", (("d", "on", -1), ("b", "on", 0), ("w", "off", 1), ("l", "on", 1)), (), ("d", "l", "b")))

    def test_a_want_turns_off_none_that_is_wished_later_or_back(self):
        shelf = Shelf([Unit("a", wants=("b",)), Unit("b", bars=("c",)), Unit("c"), Unit("d", needs=("c",))])
        rows = (("a", "on", -1), ("b", "on", 0), ("c", "off", 1), ("d", "off", 2))
        left = ("plan", "a", rows[:1], (("a", "b", "takes"),), ("a",))
        self.assert_so(shelf, Stand(), ("plan", "a", rows, (), ("a", "b")))
        self.assert_not(shelf, Stand(), left)
        for stand in (Stand(later=("c",)), Stand(back=("c",)), Stand(back=("d",)), Stand(back=("c", "d"))):
            self.assert_so(shelf, stand, left)
            self.assert_not(shelf, stand, ("plan", "a", rows, (), ("a", "b")))
        self.assert_so(shelf, Stand(wished=("c",), up=("c",)), left)
        self.assert_not(shelf, Stand(wished=("c",), up=("c",)), ("plan", "a", rows, (), ("a", "b")))
        core = Shelf([Unit("a", wants=("b",), bars=("c",)), *[shelf.unit(name) for name in "bcd"]])
        for stand in (Stand(later=("c",)), Stand(back=("c", "d")), Stand(wished=("c", "d"))):
            self.assert_so(core, stand, ("plan", "a", rows, (), ("a", "b")))

    def test_orders(self):
        shelf = Shelf([Unit("a", needs=("b",), after=("c",)), Unit("b"), Unit("c"), Unit("d")])
        stand = Stand(wished=("c", "d"), up=("d",))
        rows = (("a", "on", -1), ("b", "on", 0))
        for order in (("b", "c", "a"), ("c", "b", "a")):
            self.assert_so(shelf, stand, ("plan", "a", rows, (), order))
        for order in ((), ("a", "b", "c"), ("b", "a", "c"), ("c", "a", "b"), ("b", "a"), ("c", "b", "a", "d"),
                      ("c", "b", "a", "a"), ("c", "c", "b", "a"), ("b", "b", "a"), ["c", "b", "a"], "cba",
                      ("c", "b", "x"), ("c", "b", None), ("c", "b", ["a"]), (("c", "b", "a"),), None, 3):
            self.assert_not(shelf, stand, ("plan", "a", rows, (), order))

    def test_dropped_ones(self):
        shelf = Shelf([Unit("a", needs=("b",), wants=("x",)), Unit("b", wants=("x", "y"))])
        rows, order = (("a", "on", -1), ("b", "on", 0)), ("b", "a")
        right = (("a", "x", "lack"), ("b", "x", "lack"), ("b", "y", "lack"))
        self.assert_so(shelf, Stand(), ("plan", "a", rows, right, order), ("plan", "a", rows, right[::-1], order))
        for dropped in (right[:2], right[1:], (), (*right, right[0]), (*right, ("a", "y", "lack")),
                        (*right, ("a", "b", "lack")), (*right, ("x", "y", "lack")), (*right, ("c", "x", "lack")),
                        (*right[:2], ("b", "y", "clash")), (*right[:2], ["b", "y", "lack"]), list(right),
                        (*right[:2], ("b", "y")), (*right[:2], ("b", "y", "lack", "")), (*right[:2], "byl"),
                        (*right[:2], (["b"], "y", "lack")), (*right[:2], ("b", ["y"], "lack")), None, "", 0):
            self.assert_not(shelf, Stand(), ("plan", "a", rows, dropped, order))

    def test_what_follows_is_there(self):
        shelf = Shelf([Unit("a", needs=("b",), bars=("c",)), Unit("b"), Unit("c"), Unit("d", needs=("c",)), Unit("e")])
        rows = (("a", "on", -1), ("b", "on", 0), ("c", "off", 0), ("d", "off", 2))
        self.assert_so(shelf, Stand(), ("plan", "a", rows, (), ("b", "a")))
        for spoilt_rows in (rows[:3], rows[:2], rows[:1], (rows[0], rows[2], ("d", "off", 1)),
                            (*rows, ("e", "on", 0)), (*rows, ("e", "off", 0)), (*rows, ("d", "off", 2)),
                            (rows[1], rows[0], *rows[2:]), rows[1:], (), (*rows[:3], ("d", "on", 2)),
                            (*rows[:3], ("x", "off", 2)), (("a", "off", -1), *rows[1:]), (("a", "on", 0), *rows[1:]),
                            (("a", "on", -2), *rows[1:]), (("b", "on", -1), ("a", "on", 0), *rows[2:]), list(rows)):
            self.assert_not(shelf, Stand(), ("plan", "a", spoilt_rows, (), ("b", "a")))

    def test_a_plan_where_a_refusal_is_due(self):
        self.assert_not(shelf_of(a="x"), Stand(), ("plan", "a", (("a", "on", -1),), (), ("a",)))
        clashing = Shelf([Unit("a", needs=("b",), bars=("b",)), Unit("b")])
        self.assert_not(
            clashing, Stand(), ("plan", "a", (("a", "on", -1), ("b", "on", 0)), (), ("b", "a")),
            ("plan", "a", (("a", "on", -1), ("b", "off", 0)), (), ("a",)),
            ("plan", "a", (("a", "on", -1), ("b", "on", 0), ("b", "off", 0), ("a", "off", 2)), (), ("b", "a")))
        ring = Shelf([Unit("a", after=("b",)), Unit("b", after=("a",))])
        for order in (("a", "b"), ("b", "a"), ("a",), ("b",), ()):
            self.assert_not(ring, Stand(wished=("b",)), ("plan", "a", (("a", "on", -1),), (), order))
        self.assert_so(ring, Stand(), ("plan", "a", (("a", "on", -1),), (), ("a",)))
        self.assert_so(ring, Stand(wished=("b",), up=("b",)), ("plan", "a", (("a", "on", -1),), (), ("a",)))


class RefusalPapers(LookerCase):
    def test_lacks(self):
        shelf = Shelf([Unit("a", needs=("b", "c", "x")), Unit("b", needs=("y",)), Unit("c", needs=("a",), bars=("d",)),
                       Unit("d", needs=("z",))])
        a, b, c, d = ("a", "on"), ("b", "on"), ("c", "on"), ("d", "off")
        self.assert_so(shelf, Stand(), ("lack", "a", (a,), "x"), ("lack", "a", (a, b), "y"),
                       ("lack", "a", (a, c, a, b), "y"), ("lack", "a", (a, c, a, c, a), "x"),
                       ("lack", "c", (c, a), "x"))
        self.assert_not(
            shelf, Stand(), ("lack", "a", (a,), "y"), ("lack", "a", (a, b), "x"), ("lack", "a", (b,), "y"),
            ("lack", "b", (a, b), "y"), ("lack", "a", (a, d), "z"), ("lack", "a", (a, c, d), "z"),
            ("lack", "a", (), "x"), ("lack", "a", (a,), "b"), ("lack", "a", (a,), ["x"]), ("lack", "a", (a,), None),
            ("lack", "a", [a], "x"), ("lack", "a", (["a", "on"],), "x"), ("lack", "a", (("a", "on", -1),), "x"),
            ("lack", "a", (a,)), ("lack", "a", (a,), "x", "x"), ("lack", "x", (("x", "on"),), "x"),
            ("lack", "a", (a, b, ("y", "on")), "y"), ("lack", "a", a, "x"), ("clash", "a", (a,), "x"),
            ("lack", "a", (("a", "off"),), "x"), ("lack", "a", (a, c, b), "y"))

    def test_clashes(self):
        shelf = Shelf([Unit("a", needs=("b", "c", "x")), Unit("b", needs=("a",), bars=("c",)), Unit("c")])
        a, b, c = ("a", "on"), ("b", "on"), ("c", "on")
        off = {name: (name, "off") for name in "abc"}
        self.assert_so(
            shelf, Stand(), ("clash", "a", (a, c), (a, b, off["c"])), ("clash", "a", (a, b), (a, c, off["b"])),
            ("clash", "a", (a,), (a, b, off["c"], off["a"])), ("clash", "a", (a, b, a, c), (a, b, a, b, off["c"])),
            ("clash", "a", (a, b, a, b, a), (a, b, off["c"], off["a"], off["b"], off["a"])),
            ("clash", "b", (b,), (b, off["c"], off["a"], off["b"])))
        self.assert_not(
            shelf, Stand(), ("clash", "a", (a, b, off["c"]), (a, c)), ("clash", "a", (a, c), (a, c)),
            ("clash", "a", (a, b), (a, b, off["c"])), ("clash", "a", (a, c), (a, off["c"])),
            ("clash", "a", (c,), (a, b, off["c"])), ("clash", "a", (), ()), ("clash", "a", (a, c), ()),
            ("clash", "b", (a, c), (a, b, off["c"])), ("clash", "a", [a, c], (a, b, off["c"])),
            ("clash", "a", (a, c), [a, b, off["c"]]), ("clash", "a", (a, c)), ("lack", "a", (a, c), (a, b, off["c"])),
            ("clash", "a", (a, b, off["c"]), (a, b, off["c"])))

    def test_a_clash_where_something_lacks_too(self):
        shelf = Shelf([Unit("a", needs=("b", "x"), bars=("b",)), Unit("b")])
        paper = ("clash", "a", (("a", "on"), ("b", "on")), (("a", "on"), ("b", "off")))
        self.assertEqual(paper_on(shelf, Stand(), "a")[0], "lack")
        self.assert_so(shelf, Stand(), paper, paper_on(shelf, Stand(), "a"))

    def test_knots(self):
        shelf = Shelf([Unit("a", needs=("b",)), Unit("b", needs=("c",)), Unit("c", after=("a", "b", "d")),
                       Unit("d", after=("c",))])
        rings = [("a", "b", "c"), ("b", "c", "a"), ("c", "a", "b"), ("b", "c"), ("c", "b")]
        self.assert_so(shelf, Stand(), *[("knot", "a", ring) for ring in rings], ("knot", "b", ("c", "b")))
        self.assert_so(shelf, Stand(wished=("d",)), ("knot", "a", ("d", "c")), ("knot", "a", ("c", "d")))
        self.assert_not(
            shelf, Stand(), ("knot", "a", ()), ("knot", "a", ("a",)), ("knot", "a", ("a", "c", "b")),
            ("knot", "a", ("a", "b")), ("knot", "a", ("c", "d")), ("knot", "a", ("b", "c", "b", "c")),
            ("knot", "a", ["b", "c"]), ("knot", "a", "bc"), ("knot", "a", ("b", ["c"])), ("knot", "a", ("b", "x")),
            ("knot", "c", ("b", "c")), ("knot", "b", ("a", "b", "c")), ("knot", "a"), ("knot", "a", ("b", "c"), ()),
            ("knot", "x", ("b", "c")), ("knot", ["a"], ("b", "c")))
        self.assert_not(shelf, Stand(up=("b",)), *[("knot", "a", ring) for ring in rings])
        self.assert_not(shelf, Stand(later=("d",)), ("knot", "a", ("c", "d")))

    def test_no_knot_where_something_lacks_or_clashes(self):
        shelf = Shelf([Unit("a", needs=("b", "x")), Unit("b", after=("a",))])
        self.assert_not(shelf, Stand(), ("knot", "a", ("a", "b")))
        shelf = Shelf([Unit("a", needs=("b", "c"), bars=("c",)), Unit("b", after=("a",)), Unit("c")])
        self.assert_not(shelf, Stand(), ("knot", "a", ("a", "b")), ("knot", "a", ("b", "a")))

    def test_no_knot_by_wants(self):
        shelf = Shelf([Unit("a", wants=("b",), after=("b",)), Unit("b", after=("a",))])
        self.assert_not(shelf, Stand(), ("knot", "a", ("a", "b")))

    def test_a_refusal_where_a_plan_is_due(self):
        shelf = shelf_of(a="b", b="")
        a, b = ("a", "on"), ("b", "on")
        self.assert_not(shelf, Stand(), ("lack", "a", (a, b), "x"), ("lack", "a", (a,), "b"),
                        ("clash", "a", (a, b), (a, ("b", "off"))), ("knot", "a", ("a", "b")), ("knot", "a", ("b", "a")))


class AnyThing(LookerCase):
    def test_things_that_are_no_papers(self):
        for shelf in (Shelf(), shelf_of(a="", b="a")):
            self.assert_not(shelf, Stand(), *NO_NAMES, *OTHER_PARTS)
            for word in (*WORDS, None, True, ["plan"], ("plan",)):
                for name in ("a", *NO_NAMES):
                    for parts in ((), (None,), ((), ()), ((), (), ()), ([], [], []), (1, 2, 3), ("a", "b", "c"),
                                  ((("a", "on"),), "x"), ((((((),),),),),), ([[[[]]]],)):
                        self.assert_not(shelf, Stand(), (word, name, *parts))

    def test_great_things(self):
        shelf = shelf_of(a="b", b="a")
        long_chain = (("a", "on"), ("b", "on")) * 300
        self.assert_not(shelf, Stand(), ("lack", "a", long_chain, "x"), ("clash", "a", long_chain, long_chain),
                        ("knot", "a", ("a", "b") * 300), ("plan", "a", (("a", "on", -1),) * 600, (), ()),
                        ("plan", "a", (("a", "on", -1),), (("a", "b", "lack"),) * 600, ("a",) * 600))
        shelf = Shelf([Unit("a", needs=("b",)), Unit("b", needs=("a", "x"), bars=("c",)), Unit("c", needs=("a",))])
        self.assert_so(shelf, Stand(), ("lack", "a", long_chain, "x"),
                       ("clash", "c", (("c", "on"),), (("c", "on"), *long_chain, ("c", "off"))))

    def test_by_name(self):
        shelf = shelf_of(a="")
        self.assertIs(holds(paper=("plan", "a", (("a", "on", -1),), (), ("a",)), stand=Stand(), shelf=shelf), True)
        self.assertEqual(list(inspect.signature(holds).parameters), ["shelf", "stand", "paper"])


class Many(LookerCase):
    def each(self, seed, count, *, most=2):
        source = Random(seed)
        for shelf in some_shelves(seed, count, most=most, names=("a", "b", "c", "d", "e", "f")):
            stand = some_stand(source, shelf)
            for name in shelf.names():
                yield source, shelf, stand, name

    def test_the_told_paper_is_let_by(self):
        for most in (1, 2, 3):
            for source, shelf, stand, name in self.each(160 + most, 150, most=most):
                self.assert_so(shelf, stand, paper_on(shelf, stand, name))
                self.assertIs(paper_is_so(shelf, stand, paper_on(shelf, stand, name)), True)

    def test_plans_made_by_hand(self):
        many = 0
        source = Random(171)
        for turn in range(300):
            shelf = wanting_shelf(source)
            # Where nobody is wished or waited for, more of the wants can be put in unlike orders.
            stand = some_stand(source, shelf) if turn % 2 else Stand()
            for name in shelf.names():
                papers = list(some_plan_papers(source, shelf, stand, name))
                self.assert_so(shelf, stand, *papers)
                many += len(papers) > 1
        self.assertGreater(many, 100)

    def test_chains_with_round_ways(self):
        longer = 0
        for source, shelf, stand, name in self.each(181, 200):
            word, told = plan_told(shelf, stand, name)
            if word in ("lack", "clash"):
                paper = paper_on(shelf, stand, name)
                parts = tuple(some_chain(source, shelf, part) if type(part) is tuple else part for part in paper[2:])
                longer += parts != paper[2:]
                self.assert_so(shelf, stand, (word, name, *parts))
        self.assertGreater(longer, 50)

    def test_spoilt_papers(self):
        for most in (1, 2):
            for source, shelf, stand, name in self.each(190 + most, 12, most=most):
                self.assert_each_spoilt_as_the_model_tells(shelf, stand, paper_on(shelf, stand, name))

    def test_spoilt_papers_made_by_hand(self):
        source = Random(195)
        for turn in range(12):
            shelf = wanting_shelf(source)
            stand = some_stand(source, shelf)
            for paper in list(some_plan_papers(source, shelf, stand, source.choice("abcdef")))[-1:]:
                self.assert_each_spoilt_as_the_model_tells(shelf, stand, paper)


if __name__ == "__main__":
    unittest.main()
