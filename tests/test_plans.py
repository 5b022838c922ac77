"""Plans: promises 12, 13 and 14."""

import inspect
import unittest
from random import Random

from tests.model import behind_told, plan_told, stand_fits, told_by_steps
from tests.plan_cases import PlanCase
from tests.things import (
    NO_NAMES, SIXTEEN, four, shelf_fields, shelf_of, some_shelves, some_stand)
from unitwants.errors import Clash, Knot, Lack, NoUnit, UnitError
from unitwants.plans import Plan, behind, plan_off, plan_on
from unitwants.shelves import Shelf
from unitwants.stands import Stand, fits
from unitwants.units import Unit

FIELDS = ("name", "way", "demands", "dropped")


def pairs(plan):
    """The demands of the plan without their causes, by names."""
    return sorted(row[:2] for row in plan.demands)


def on(*names):
    return sorted((name, "on") for name in names)


class Plans(unittest.TestCase):
    def test_fields_and_len(self):
        demands = (("a", "on", -1), ("b", "off", 0))
        dropped = (("a", "c", "lack"),)
        plan = Plan("a", "on", demands, dropped)
        self.assertEqual([getattr(plan, field) for field in FIELDS], ["a", "on", demands, dropped])
        self.assertEqual(len(plan), 2)
        self.assertEqual(set(FIELDS) - set(vars(plan)), set())
        self.assertEqual(len(Plan("a", "off", (("a", "off", -1),))), 1)
        self.assertEqual(Plan("a", "off", (("a", "off", -1),)).dropped, ())

    def test_by_name_and_by_place(self):
        demands = (("a", "on", -1),)
        plan = Plan(dropped=(("a", "b", "knot"),), demands=demands, way="on", name="a")
        self.assertEqual([getattr(plan, field) for field in FIELDS], ["a", "on", demands, (("a", "b", "knot"),)])
        parameters = inspect.signature(Plan).parameters
        self.assertEqual(tuple(parameters), FIELDS)
        self.assertEqual(parameters["dropped"].default, ())

    def test_two_plans_share_nothing(self):
        one = Plan("a", "on", (("a", "on", -1),))
        Plan("b", "off", (("b", "off", -1), ("a", "off", 0)), (("b", "c", "lack"),))
        self.assertEqual([getattr(one, field) for field in FIELDS], ["a", "on", (("a", "on", -1),), ()])


class RefusalCase(PlanCase):
    def assert_refused(self, kind, shelf, stand, name):
        self.assertTrue(stand_fits(shelf, stand))
        before = (shelf_fields(shelf), four(stand))
        for turn in range(2):
            with self.assertRaises(kind) as caught:
                plan_on(shelf, stand, name)
            self.assertIs(type(caught.exception), kind)
        self.assertEqual((shelf_fields(shelf), four(stand)), before)
        return caught.exception

    def assert_lack(self, shelf, stand, name):
        refusal = self.assert_refused(Lack, shelf, stand, name)
        self.assertIs(type(refusal.chain), list)
        self.assert_lacks(shelf, name, refusal.chain, refusal.missing)
        return refusal

    def assert_knot(self, shelf, stand, name):
        ring = self.assert_refused(Knot, shelf, stand, name).ring
        wished, up, later, back = behind_told(stand, told_by_steps(shelf, [(name, "on")]))
        self.assertIs(type(ring), list)
        self.assert_ring(shelf, set(wished) - set(up), ring)
        return ring


class Refusals(RefusalCase):
    def test_no_unit_of_any_thing(self):
        for shelf in (Shelf(), shelf_of(a="x", b="")):
            for name in NO_NAMES:
                refusal = self.assert_refused(NoUnit, shelf, Stand(), name)
                self.assertEqual(refusal.name, name)
                self.assertIs(type(refusal.name), type(name))
                self.assertNotIsInstance(refusal, UnitError)

    def test_no_unit_of_a_thing_that_is_changed_later(self):
        name = ["a", ["b"]]
        refusal = self.assert_refused(NoUnit, shelf_of(a=""), Stand(), name)
        name[1].append("c")
        self.assertEqual(refusal.name, ["a", ["b"]])

    def test_lack(self):
        shelf = shelf_of(a="b", b=("c", "x"), c="", d="c")
        refusal = self.assert_lack(shelf, Stand(), "a")
        self.assertEqual((refusal.missing, refusal.chain), ("x", [("a", "on"), ("b", "on")]))
        self.assertEqual(self.assert_lack(shelf, Stand(wished=("c",), back=("a",)), "b").chain, [("b", "on")])
        self.assertEqual(pairs(plan_on(shelf, Stand(), "d")), on("c", "d"))

    def test_clash_of_the_least_name(self):
        shelf = Shelf([Unit("m", needs=("z", "q", "b")), Unit("z"), Unit("q", bars=("z",)), Unit("b")])
        self.assertEqual(self.assert_refused(Clash, shelf, Stand(), "m").name, "m")
        shelf = Shelf([Unit("z", needs=("b", "c")), Unit("b"), Unit("c", bars=("b",))])
        self.assertEqual(self.assert_refused(Clash, shelf, Stand(), "z").name, "b")
        shelf = Shelf([Unit("a", needs=("b",)), Unit("b", bars=("a",))])
        self.assertEqual(self.assert_refused(Clash, shelf, Stand(), "a").name, "a")
        self.assertIsInstance(self.assert_refused(Clash, shelf, Stand(), "a"), UnitError)

    def test_a_clash_a_long_way_on(self):
        # e is barred with d, which needs c, which a needs by b.
        shelf = Shelf([Unit("a", needs=("b", "e")), Unit("b", needs=("c",)), Unit("c", needs=("d",)), Unit("d"),
                       Unit("e", bars=("d",))])
        self.assertEqual(self.assert_refused(Clash, shelf, Stand(), "a").name, "a")
        self.assertEqual(pairs(plan_on(shelf, Stand(), "e")),
                         [("a", "off"), ("b", "off"), ("c", "off"), ("d", "off"), ("e", "on")])

    def test_a_knot_of_the_core(self):
        self.assertEqual(sorted(self.assert_knot(shelf_of(a="b", b="c", c="b"), Stand(), "a")), ["b", "c"])
        shelf = Shelf([Unit("a", needs=("b",)), Unit("b", after=("a",))])
        self.assertEqual(sorted(self.assert_knot(shelf, Stand(), "a")), ["a", "b"])
        self.assertEqual(pairs(plan_on(shelf, Stand(), "b")), on("b"))
        shelf = Shelf([Unit("a", kind="door", opens="b", needs=("b",)), Unit("b")])
        self.assertEqual(sorted(self.assert_knot(shelf, Stand(), "a")), ["a", "b"])

    def test_a_knot_with_ones_that_were_wished_ahead(self):
        shelf = Shelf([Unit("a", after=("b",)), Unit("b", after=("c",)), Unit("c", after=("a",)), Unit("d")])
        ahead = Stand(wished=("b", "c"))
        self.assertEqual(sorted(self.assert_knot(shelf, ahead, "a")), ["a", "b", "c"])
        self.assertEqual(pairs(plan_on(shelf, ahead, "d")), on("d"))
        for up in ("a", "b", "c"):
            self.assertEqual(pairs(plan_on(shelf, Stand(wished=("b", "c"), up=(up,)), "a")), on("a"))
        for stand in (Stand(wished=("b",), later=("c",)), Stand(wished=("b",), back=("c",)), Stand(wished=("b",))):
            self.assertEqual(pairs(plan_on(shelf, stand, "a")), on("a"))

    def test_no_knot_with_one_that_the_core_turns_off(self):
        shelf = Shelf([Unit("a", after=("b",), bars=("c",)), Unit("b", after=("a",), needs=("c",)), Unit("c")])
        plan = plan_on(shelf, Stand(wished=("b", "c")), "a")
        self.assertEqual(pairs(plan), [("a", "on"), ("b", "off"), ("c", "off")])

    def test_a_knot_of_ones_that_come_from_later_and_back(self):
        shelf = Shelf([Unit("a", needs=("b", "c")), Unit("b", after=("c",)), Unit("c", after=("b",))])
        for stand in (Stand(later=("b", "c")), Stand(back=("b", "c")), Stand(later=("b",), back=("c",))):
            self.assertEqual(sorted(self.assert_knot(shelf, stand, "a")), ["b", "c"])

    def test_two_or_three_at_once(self):
        ring = {"needs": ("b",), "after": ("b",)}
        shelf = Shelf([Unit("a", needs=("b", "c", "x"), bars=("c",)), Unit("b", after=("a",)), Unit("c")])
        self.assertEqual(self.assert_lack(shelf, Stand(), "a").missing, "x")
        shelf = Shelf([Unit("a", needs=("b", "c"), bars=("c",)), Unit("b", after=("a",)), Unit("c")])
        self.assertEqual(self.assert_refused(Clash, shelf, Stand(), "a").name, "a")
        shelf = Shelf([Unit("a", needs=("b", "x")), Unit("b", after=("a",))])
        self.assertEqual(self.assert_lack(shelf, Stand(), "a").missing, "x")
        shelf = Shelf([Unit("a", **ring), Unit("b", after=("a",), bars=("c",)), Unit("c")])
        self.assert_knot(shelf, Stand(), "a")
        shelf = Shelf([Unit("a", needs=("b", "x"), bars=("b",)), Unit("b")])
        self.assertEqual(self.assert_lack(shelf, Stand(), "a").missing, "x")

    def test_refusals_are_the_askers_own(self):
        self.assert_lack(shelf_of(a="x"), Stand(), "a").chain.clear()
        self.assert_lack(shelf_of(a="x"), Stand(), "a")
        shelf = shelf_of(a="b", b="a")
        self.assert_knot(shelf, Stand(), "a").clear()
        self.assert_knot(shelf, Stand(), "a")


class WantCase(PlanCase):
    def assert_told(self, shelf, stand, name, demands, dropped):
        self.assertTrue(stand_fits(shelf, stand))
        plan = plan_on(shelf, stand, name)
        self.assert_plan_on(shelf, stand, name, plan)
        self.assertEqual(pairs(plan), sorted(demands))
        self.assertEqual(plan.dropped, tuple(dropped))
        self.assertIs(fits(shelf, behind(stand, plan)), True)
        return plan


class Wants(WantCase):
    def test_taken_in_their_order(self):
        # The first one bars the second, so the order tells which of them is taken.
        for first, second in (("b", "c"), ("c", "b")):
            shelf = Shelf([Unit("a", wants=(first, second)), Unit("b", bars=("c",)), Unit("c")])
            self.assert_told(shelf, Stand(), "a", [("a", "on"), (first, "on"), (second, "off")],
                             [("a", second, "clash")])

    def test_the_asker_with_the_least_name_first(self):
        # m and b are both in the core; b asks first, although m comes first in it.
        shelf = Shelf([Unit("m", needs=("b",), wants=("x",)), Unit("b", wants=("y",)), Unit("x", bars=("y",)),
                       Unit("y")])
        self.assert_told(shelf, Stand(), "m", [*on("b", "m", "y"), ("x", "off")], [("m", "x", "clash")])

    def test_one_that_a_want_brought_asks_first(self):
        # z takes a, which asks for p ahead of z's next want.
        shelf = Shelf([Unit("z", wants=("a", "q")), Unit("a", wants=("p",)), Unit("p", bars=("q",)), Unit("q")])
        self.assert_told(shelf, Stand(), "z", [*on("a", "p", "z"), ("q", "off")], [("z", "q", "clash")])
        shelf = Shelf([Unit("b", wants=("z", "q")), Unit("z", wants=("p",)), Unit("p", bars=("q",)), Unit("q")])
        self.assert_told(shelf, Stand(), "b", [*on("b", "q", "z"), ("p", "off")], [("z", "p", "clash")])

    def test_one_that_a_want_brought_as_its_need_asks_too(self):
        shelf = Shelf([Unit("b", wants=("c",)), Unit("c", needs=("a",)), Unit("a", wants=("d", "x")), Unit("d")])
        self.assert_told(shelf, Stand(), "b", on("a", "b", "c", "d"), [("a", "x", "lack")])

    def test_those_in_back_that_need_a_unit_are_its_wants(self):
        shelf = shelf_of(a="", b="a", c="b", d="a", e="x")
        self.assert_told(shelf, Stand(back=("b", "c", "e")), "a", on("a", "b", "c"), [])
        self.assert_told(shelf, Stand(back=("c",)), "a", on("a"), [])
        self.assert_told(shelf, Stand(), "a", on("a"), [])
        self.assert_told(shelf, Stand(wished=("a",), back=("c", "d")), "b", on("a", "b", "c", "d"), [])

    def test_those_in_back_come_rising_and_behind_its_own(self):
        # Whoever comes first bars the other one by a ring.
        shelf = Shelf([Unit("a", wants=("z",)), Unit("b", needs=("a",), after=("z",)), Unit("z", after=("b",))])
        self.assert_told(shelf, Stand(back=("b",)), "a", on("a", "z"), [("a", "b", "knot")])
        shelf = Shelf([Unit("a"), Unit("c", needs=("a",), after=("b",)), Unit("b", needs=("a",), after=("c",))])
        self.assert_told(shelf, Stand(back=("b", "c")), "a", on("a", "b"), [("a", "c", "knot")])
        shelf = Shelf([Unit("a", wants=("z", "x")), Unit("c", needs=("a", "x")), Unit("b", needs=("a", "y")),
                       Unit("z", needs=("w",))])
        self.assert_told(shelf, Stand(back=("b", "c")), "a", on("a"),
                         [("a", "z", "lack"), ("a", "x", "lack"), ("a", "b", "lack"), ("a", "c", "lack")])

    def test_one_in_back_that_is_among_the_own_wants_is_looked_at_once(self):
        shelf = Shelf([Unit("a", wants=("c", "b")), Unit("b", needs=("a", "x")), Unit("c", needs=("a", "y"))])
        self.assert_told(shelf, Stand(back=("b", "c")), "a", on("a"), [("a", "c", "lack"), ("a", "b", "lack")])

    def test_one_in_back_by_which_another_in_back_comes(self):
        shelf = shelf_of(a="", b="a", c=("b", "d"), d="")
        self.assert_told(shelf, Stand(back=("b", "c")), "a", on("a", "b", "c", "d"), [])
        self.assert_told(shelf, Stand(back=("b", "c"), later=("d",)), "a", on("a", "b"), [("b", "c", "early")])

    def test_a_want_that_is_there_already(self):
        shelf = Shelf([Unit("a", needs=("b",), wants=("b", "c", "d")), Unit("b", wants=("a", "d")),
                       Unit("c", needs=("d",)), Unit("d", wants=("a", "b", "c", "d"))])
        self.assert_told(shelf, Stand(), "a", on("a", "b", "c", "d"), [])
        self.assert_told(shelf, Stand(wished=("a", "b", "d"), back=("c",)), "a", on("a", "b", "c", "d"), [])

    def test_a_want_that_is_wished_already_is_put_to_the_plan(self):
        shelf = Shelf([Unit("a", wants=("b",)), Unit("b", needs=("c",)), Unit("c"), Unit("d", bars=("b",))])
        self.assert_told(shelf, Stand(wished=("b", "c"), up=("b", "c")), "a", [*on("a", "b", "c"), ("d", "off")], [])

    def test_wants_bring_needs_and_bars_of_their_own(self):
        shelf = Shelf([Unit("a", wants=("b",)), Unit("b", needs=("c",), bars=("e",)), Unit("c", bars=("d",)),
                       Unit("d"), Unit("e"), Unit("f", needs=("e",)), Unit("g", bars=("c",))])
        self.assert_told(shelf, Stand(), "a", [*on("a", "b", "c"), *[(name, "off") for name in "defg"]], [])

    def test_a_want_dropped_for_one_is_asked_by_another(self):
        shelf = Shelf([Unit("a", needs=("b",), wants=("c", "x")), Unit("b", wants=("x", "d", "c")),
                       Unit("c", needs=("y",)), Unit("d", wants=("c",))])
        self.assert_told(shelf, Stand(), "a", on("a", "b", "d"),
                         [("a", "c", "lack"), ("a", "x", "lack"), ("b", "x", "lack"), ("b", "c", "lack"),
                          ("d", "c", "lack")])

    def test_dropped_in_the_order_in_which_they_were_looked_at(self):
        shelf = Shelf([Unit("m", wants=("z", "a", "y")), Unit("a", wants=("x", "n")), Unit("n", wants=("w", "x"))])
        self.assert_told(shelf, Stand(), "m", on("a", "m", "n"),
                         [("m", "z", "lack"), ("a", "x", "lack"), ("m", "y", "lack"), ("n", "w", "lack"),
                          ("n", "x", "lack")])

    def test_wants_of_ones_that_go_off_are_not_asked_for(self):
        shelf = Shelf([Unit("a", bars=("b",)), Unit("b", wants=("c", "x")), Unit("c")])
        self.assert_told(shelf, Stand(), "a", [("a", "on"), ("b", "off")], [])
        self.assert_told(shelf, Stand(wished=("b",)), "a", [("a", "on"), ("b", "off")], [])

    def test_wants_of_wished_ones_that_the_plan_has_not_are_not_asked_for(self):
        shelf = Shelf([Unit("a"), Unit("b", wants=("c", "x")), Unit("c")])
        self.assert_told(shelf, Stand(wished=("b",)), "a", on("a"), [])

    def test_wants_refuse_no_plan(self):
        shelf = Shelf([Unit("a", wants=("x", "b", "c", "d", "e")), Unit("b", needs=("x",)), Unit("c", bars=("a",)),
                       Unit("d", needs=("e",)), Unit("e", needs=("d",))])
        self.assert_told(shelf, Stand(), "a", [("a", "on"), ("c", "off")],
                         [("a", "x", "lack"), ("a", "b", "lack"), ("a", "c", "clash"), ("a", "d", "knot"),
                          ("a", "e", "knot")])

    def test_sixteen_of_eight_wants(self):
        units = [Unit(name, wants=tuple((SIXTEEN * 2)[at + 1:at + 9])) for at, name in enumerate(SIXTEEN)]
        for name in SIXTEEN:
            self.assert_told(Shelf(units), Stand(), name, on(*SIXTEEN), [])
        units = [Unit(name, wants=tuple("uvwxyij") + (SIXTEEN[at - 1],)) for at, name in enumerate(SIXTEEN)]
        plan = plan_on(Shelf(units), Stand(), "a")
        self.assert_plan_on(Shelf(units), Stand(), "a", plan)
        self.assertEqual((len(plan), len(plan.dropped)), (16, 16 * 7))


class Words(WantCase):
    def assert_word(self, word, shelf, stand, *, core=(("a", "on"),)):
        """Where a is asked for, its want b is dropped by this word, and nothing else is."""
        self.assert_told(shelf, stand, "a", core, [("a", "b", word)])

    def assert_taken(self, shelf, stand, *names, off=()):
        self.assert_told(shelf, stand, "a", [*on("a", "b", *names), *[(name, "off") for name in off]], [])

    def shelf(self, *units, bars=(), after=()):
        return Shelf([Unit("a", wants=("b",), bars=bars, after=after), *units])

    def test_lack(self):
        self.assert_word("lack", self.shelf(), Stand())
        self.assert_word("lack", self.shelf(Unit("b", needs=("x",))), Stand())
        self.assert_word("lack", self.shelf(Unit("b", needs=("c",)), Unit("c", needs=("a", "d")),
                                            Unit("d", needs=("x",))), Stand())
        self.assert_taken(self.shelf(Unit("b", wants=(), bars=("x",), after=("x",))), Stand())

    def test_clash(self):
        off = [("a", "on"), ("b", "off")]
        self.assert_word("clash", self.shelf(Unit("b", bars=("a",))), Stand(), core=off)
        self.assert_word("clash", self.shelf(Unit("b"), bars=("b",)), Stand(), core=off)
        self.assert_word("clash", self.shelf(Unit("b", needs=("c",)), Unit("c", bars=("a",))), Stand(),
                         core=[*off, ("c", "off")])
        self.assert_word("clash", self.shelf(Unit("b", needs=("c", "d")), Unit("c", bars=("d",)), Unit("d")), Stand())

    def test_early(self):
        self.assert_word("early", self.shelf(Unit("b")), Stand(later=("b",)))
        self.assert_word("early", self.shelf(Unit("b", needs=("c",)), Unit("c")), Stand(later=("c",)))
        self.assert_word("early", self.shelf(Unit("b", needs=("c",)), Unit("c", needs=("d",)), Unit("d")),
                         Stand(later=("d",), back=("b", "c")))

    def test_not_early_where_the_core_has_it(self):
        shelf = Shelf([Unit("a", needs=("c",), wants=("b",)), Unit("b", needs=("c",)), Unit("c")])
        self.assert_taken(shelf, Stand(later=("c",)), "c")
        self.assert_taken(shelf, Stand(later=("c",), back=("a", "b")), "c")
        self.assert_taken(self.shelf(Unit("b")), Stand(later=("a",)))

    def test_takes(self):
        shelf = self.shelf(Unit("b", bars=("c",)), Unit("c"))
        for word in ("wished", "later", "back"):
            self.assert_word("takes", shelf, Stand(**{word: ("c",)}))
        self.assert_taken(shelf, Stand(up=("c",)), off=("c",))
        self.assert_taken(shelf, Stand(), off=("c",))
        self.assert_word("takes", self.shelf(Unit("b"), Unit("c", bars=("b",))), Stand(wished=("c",)))

    def test_takes_one_that_needs_what_is_barred(self):
        shelf = self.shelf(Unit("b", bars=("d",)), Unit("c", needs=("d",)), Unit("d"))
        self.assert_word("takes", shelf, Stand(back=("c",)))
        self.assert_taken(shelf, Stand(), off=("c", "d"))

    def test_takes_nothing_where_the_core_does(self):
        shelf = self.shelf(Unit("b", bars=("c",)), Unit("c"), bars=("c",))
        for word in ("wished", "later", "back"):
            self.assert_taken(shelf, Stand(**{word: ("c",)}), off=("c",))

    def test_knot(self):
        self.assert_word("knot", self.shelf(Unit("b", after=("a",)), after=("b",)), Stand())
        self.assert_word("knot", self.shelf(Unit("b", needs=("c",)), Unit("c", after=("b",))), Stand())
        self.assert_word("knot", self.shelf(Unit("b", kind="door", opens="a", after=("a",))), Stand())

    def test_knot_with_ones_that_were_wished_ahead(self):
        shelf = self.shelf(Unit("b", after=("c",)), Unit("c", after=("b",)))
        self.assert_word("knot", shelf, Stand(wished=("c",)))
        for stand in (Stand(wished=("c",), up=("c",)), Stand(wished=("c",), up=("b",)), Stand(later=("c",)),
                      Stand(back=("c",)), Stand()):
            self.assert_taken(shelf, stand)
        shelf = self.shelf(Unit("b", after=("c",)), Unit("c", after=("b",)), bars=("c",))
        self.assert_taken(shelf, Stand(wished=("c",)), off=("c",))

    def test_lack_ahead_of_the_others(self):
        off = [("a", "on"), ("b", "off")]
        self.assert_word("lack", self.shelf(Unit("b", needs=("x",), bars=("a",))), Stand(), core=off)
        self.assert_word("lack", self.shelf(Unit("b", needs=("c", "x")), Unit("c")), Stand(later=("c",)))
        self.assert_word("lack", self.shelf(Unit("b", needs=("x",), bars=("c",)), Unit("c")), Stand(wished=("c",)))
        self.assert_word("lack", self.shelf(Unit("b", needs=("x",), after=("a",)), after=("b",)), Stand())

    def test_clash_ahead_of_those_behind_it(self):
        off = [("a", "on"), ("b", "off")]
        self.assert_word("clash", self.shelf(Unit("b", bars=("a",), needs=("c",)), Unit("c")), Stand(later=("c",)),
                         core=off)
        self.assert_word("clash", self.shelf(Unit("b", bars=("a", "c")), Unit("c")), Stand(wished=("c",)), core=off)
        self.assert_word("clash", self.shelf(Unit("b", bars=("a",), after=("a",)), after=("b",)), Stand(), core=off)

    def test_early_and_takes_of_names_that_the_plan_has_with_the_other_way(self):
        # c goes off by the core and comes on by the want; d the other way round: each is a clash first.
        self.assert_word("clash", self.shelf(Unit("b", needs=("c",)), Unit("c"), bars=("c",)), Stand(later=("c",)),
                         core=[("a", "on"), ("b", "off"), ("c", "off")])
        shelf = Shelf([Unit("a", needs=("d",), wants=("b",)), Unit("b", bars=("d",)), Unit("d")])
        self.assert_word("clash", shelf, Stand(wished=("d",)), core=[*on("a", "d"), ("b", "off")])

    def test_early_ahead_of_those_behind_it(self):
        shelf = self.shelf(Unit("b", needs=("c",), bars=("d",)), Unit("c"), Unit("d"))
        self.assert_word("early", shelf, Stand(wished=("d",), later=("c",)))
        shelf = self.shelf(Unit("b", needs=("c",), after=("a",)), Unit("c"), after=("b",))
        self.assert_word("early", shelf, Stand(later=("c",)))

    def test_takes_ahead_of_knot(self):
        shelf = self.shelf(Unit("b", bars=("c",), after=("a",)), Unit("c"), after=("b",))
        self.assert_word("takes", shelf, Stand(back=("c",)))


class Forms(WantCase):
    def test_of_a_plan_to_turn_on(self):
        shelf = Shelf([Unit("a", needs=("b",), wants=("c", "x"), bars=("e",)), Unit("b"), Unit("c", needs=("d",)),
                       Unit("d"), Unit("e")])
        plan = plan_on(shelf, Stand(), "a")
        self.assertEqual((plan.name, plan.way, len(plan)), ("a", "on", 5))
        self.assertEqual(plan.demands[0], ("a", "on", -1))
        self.assertEqual(plan.dropped, (("a", "x", "lack"),))
        by_name = {row[0]: row for row in plan.demands}
        places = {row[0]: at for at, row in enumerate(plan.demands)}
        self.assertEqual(by_name["b"], ("b", "on", 0))
        self.assertEqual(by_name["c"], ("c", "on", 0))
        self.assertEqual(by_name["e"], ("e", "off", 0))
        self.assertEqual(by_name["d"], ("d", "on", places["c"]))

    def test_of_the_unit_alone(self):
        plan = plan_on(shelf_of(a="", b="a"), Stand(), "a")
        self.assertEqual([getattr(plan, field) for field in FIELDS], ["a", "on", (("a", "on", -1),), ()])

    def test_by_name(self):
        shelf = shelf_of(a="")
        self.assertEqual(plan_on(name="a", stand=Stand(), shelf=shelf).demands, (("a", "on", -1),))
        self.assertEqual(plan_off(name="a", stand=Stand(), shelf=shelf).demands, (("a", "off", -1),))
        self.assertEqual(four(behind(plan=plan_on(shelf, Stand(), "a"), stand=Stand())), (("a",), (), (), ()))
        for function in (plan_on, plan_off):
            self.assertEqual(list(inspect.signature(function).parameters), ["shelf", "stand", "name"])
        self.assertEqual(list(inspect.signature(behind).parameters), ["stand", "plan"])


class Off(PlanCase):
    def assert_off(self, shelf, stand, name, names):
        plan = plan_off(shelf, stand, name)
        self.assertIs(type(plan), Plan)
        self.assertEqual((plan.name, plan.way, plan.dropped), (name, "off", ()))
        self.assert_demands(shelf, stand, name, "off", plan.demands)
        self.assertEqual(pairs(plan), [(other, "off") for other in sorted(names)])
        self.assertEqual(len(plan), len(names))

    def test_all_that_need_it_at_any_remove(self):
        shelf = Shelf([Unit("a"), Unit("b", needs=("a",)), Unit("c", needs=("b", "a")), Unit("d", needs=("c", "x")),
                       Unit("e", wants=("a",), after=("a",), bars=("a",)), Unit("f", kind="door", opens="a")])
        for stand in (Stand(), Stand(wished=("a", "b"), up=("a",), later=("c",), back=("d",))):
            self.assert_off(shelf, stand, "a", "abcd")
            self.assert_off(shelf, stand, "b", "bcd")
            self.assert_off(shelf, stand, "d", "d")
            self.assert_off(shelf, stand, "e", "e")

    def test_in_a_ring_of_needs(self):
        shelf = shelf_of(a="b", b="c", c="a", d="c")
        for name in "abc":
            self.assert_off(shelf, Stand(), name, "abcd")

    def test_never_refused(self):
        shelf = Shelf([Unit("a", needs=("x", "b"), bars=("b",), wants=("y", "b")), Unit("b", needs=("a",))])
        self.assert_off(shelf, Stand(), "a", "ab")
        self.assert_off(shelf, Stand(), "b", "ab")

    def test_along_sixteen(self):
        shelf = Shelf([Unit(name, needs=SIXTEEN[at + 1:at + 2]) for at, name in enumerate(SIXTEEN)])
        self.assert_off(shelf, Stand(), SIXTEEN[-1], SIXTEEN)
        self.assert_off(shelf, Stand(), SIXTEEN[0], SIXTEEN[:1])

    def test_no_unit_of_any_thing(self):
        shelf = shelf_of(a="")
        for name in NO_NAMES:
            with self.assertRaises(NoUnit) as caught:
                plan_off(shelf, Stand(), name)
            self.assertEqual(caught.exception.name, name)
            self.assertIs(type(caught.exception.name), type(name))


class Behind(PlanCase):
    def assert_behind(self, stand, plan, right):
        before = four(stand)
        told = behind(stand, plan)
        self.assertIs(type(told), Stand)
        self.assertEqual(four(told), right)
        for names in four(told):
            self.assertIs(type(names), tuple)
        self.assertEqual(four(stand), before)
        self.assertTrue(behind(stand, plan) == told)

    def test_on(self):
        stand = Stand(wished=("b", "d"), up=("d", "z"), later=("a", "c"), back=("e", "f"))
        plan = Plan("c", "on", (("c", "on", -1), ("e", "on", 0), ("b", "on", 1), ("aa", "on", 0)))
        self.assert_behind(stand, plan, (("aa", "b", "c", "d", "e"), ("d", "z"), ("a",), ("f",)))

    def test_off(self):
        stand = Stand(wished=("b", "d"), up=("b", "z"), later=("a", "c"), back=("e", "f"))
        plan = Plan("b", "off", (("b", "off", -1), ("c", "off", 0), ("f", "off", 0), ("z", "off", 0)))
        self.assert_behind(stand, plan, (("d",), ("b", "z"), ("a",), ("e",)))

    def test_both_in_one(self):
        stand = Stand(wished=("a", "b"), up=("a", "b"), later=("c", "d"), back=("e", "f"))
        plan = Plan("c", "on", (("c", "on", -1), ("a", "off", 0), ("d", "off", 0), ("e", "on", 0), ("f", "off", 0)))
        self.assert_behind(stand, plan, (("b", "c", "e"), ("a", "b"), (), ()))

    def test_the_dropped_ones_change_nothing(self):
        plan = Plan("a", "on", (("a", "on", -1),), (("a", "b", "early"), ("a", "c", "takes")))
        self.assert_behind(Stand(later=("b",), wished=("c",)), plan, (("a", "c"), (), ("b",), ()))

    def test_of_plans_that_were_told(self):
        shelf = Shelf([Unit("a", needs=("b",), bars=("c",)), Unit("b"), Unit("c"), Unit("d", needs=("a",))])
        stand = Stand(wished=("c",), up=("c",), back=("a", "d"))
        self.assert_behind(stand, plan_on(shelf, stand, "a"), (("a", "b", "d"), ("c",), (), ()))
        self.assert_behind(stand, plan_off(shelf, stand, "a"), (("c",), ("c",), (), ()))
        self.assert_behind(stand, plan_off(shelf, stand, "c"), ((), ("c",), (), ("a", "d")))


class Many(RefusalCase):
    def each(self):
        source = Random(13)
        for most, names in ((1, "abcdefg"), (2, "abcdefg"), (2, "abcd"), (1, "abcdefghij")):
            for shelf in some_shelves(13 + most, 150, most=most, names=tuple(names)):
                stand = some_stand(source, shelf)
                for name in shelf.names():
                    yield shelf, stand, name

    def test_on(self):
        counts = {}
        for shelf, stand, name in self.each():
            word, told = plan_told(shelf, stand, name)
            counts[word] = counts.get(word, 0) + 1
            if word == "lack":
                self.assert_lack(shelf, stand, name)
            elif word == "clash":
                self.assertEqual(self.assert_refused(Clash, shelf, stand, name).name, told)
            elif word == "knot":
                self.assert_knot(shelf, stand, name)
            else:
                before = (shelf_fields(shelf), four(stand))
                plan = plan_on(shelf, stand, name)
                self.assert_plan_on(shelf, stand, name, plan)
                self.assertEqual(four(behind(stand, plan)), behind_told(stand, told[0]))
                self.assertTrue(stand_fits(shelf, behind(stand, plan)))
                again = plan_on(shelf, stand, name)
                self.assertEqual((again.demands, again.dropped), (plan.demands, plan.dropped))
                self.assertEqual((shelf_fields(shelf), four(stand)), before)
                for asker, wanted, reason in plan.dropped:
                    counts[reason + "ed"] = counts.get(reason + "ed", 0) + 1
        self.assertEqual(len(counts), 9)
        self.assertGreater(min(counts.values()), 20, counts)

    def test_off(self):
        for shelf, stand, name in self.each():
            before = (shelf_fields(shelf), four(stand))
            plan = plan_off(shelf, stand, name)
            self.assert_demands(shelf, stand, name, "off", plan.demands)
            right = sorted(told_by_steps(shelf, [(name, "off")]))
            self.assertEqual((pairs(plan), plan.dropped, len(plan)), (right, (), len(right)))
            self.assertEqual(four(behind(stand, plan)), behind_told(stand, right))
            self.assertTrue(stand_fits(shelf, behind(stand, plan)))
            self.assertEqual((shelf_fields(shelf), four(stand)), before)


if __name__ == "__main__":
    unittest.main()
