"""What follows from demands: promises 8 and 9."""

import inspect
import itertools
import unittest
from random import Random

from tests.model import each_demand, lacking, told_at_once, told_by_steps
from tests.things import SIXTEEN, shelf_fields, shelf_of, some_shelves
from unitwants.errors import Lack, NoUnit, UnitError
from unitwants.follows import at_once, chain, clash_in, followed
from unitwants.shelves import Shelf
from unitwants.units import Unit

MIXED = Shelf([
    Unit("web", needs=("net", "disk", "gone"), wants=("log",), bars=("demo",), after=("log",)),
    Unit("net", needs=("disk",)), Unit("disk"), Unit("log", needs=("disk",), bars=("web",)),
    Unit("demo", needs=("net",), bars=("lost",)), Unit("gate", kind="door", opens="web", wants=("web",)),
    Unit("both", needs=("disk",), bars=("disk",))])


def some_demands(source, shelf):
    return [source.choice(each_demand(shelf)) for turn in range(source.randint(0, 4))]


class ChainCase(unittest.TestCase):
    def assert_chain(self, shelf, demands, links, goal):
        self.assertIs(type(links), list)
        self.assertIn(links[0], demands)
        self.assertEqual(links[-1], goal)
        for one, other in zip(links, links[1:]):
            self.assertIn(other, told_at_once(shelf, one))
        for link in links:
            self.assertIs(type(link), tuple)

    def assert_lack(self, shelf, demands):
        kept = list(demands)
        with self.assertRaises(Lack) as caught:
            followed(shelf, demands)
        self.assertEqual(demands, kept)
        refusal = caught.exception
        self.assertIsInstance(refusal, UnitError)
        name, way = refusal.chain[-1]
        self.assertEqual(way, "on")
        self.assertIn(refusal.missing, shelf.unit(name).needs)
        self.assertIs(shelf.has(refusal.missing), False)
        self.assert_chain(shelf, demands, refusal.chain, (name, "on"))
        return refusal


class AtOnce(unittest.TestCase):
    def test_on(self):
        self.assertEqual(at_once(MIXED, ("web", "on")),
                         [("demo", "off"), ("disk", "on"), ("log", "off"), ("net", "on")])
        self.assertEqual(at_once(MIXED, ("net", "on")), [("disk", "on")])
        self.assertEqual(at_once(MIXED, ("disk", "on")), [("both", "off")])
        self.assertEqual(at_once(MIXED, ("log", "on")), [("disk", "on"), ("web", "off")])
        self.assertEqual(at_once(MIXED, ("demo", "on")), [("net", "on"), ("web", "off")])
        self.assertEqual(at_once(MIXED, ("gate", "on")), [])

    def test_off(self):
        self.assertEqual(at_once(MIXED, ("disk", "off")),
                         [("both", "off"), ("log", "off"), ("net", "off"), ("web", "off")])
        self.assertEqual(at_once(MIXED, ("net", "off")), [("demo", "off"), ("web", "off")])
        for name in ("web", "log", "demo", "gate", "both"):
            self.assertEqual(at_once(MIXED, (name, "off")), [])

    def test_one_that_is_needed_and_barred(self):
        self.assertEqual(at_once(MIXED, ("both", "on")), [("disk", "off"), ("disk", "on")])

    def test_one_barred_from_both_sides_stands_there_once(self):
        shelf = Shelf([Unit("b", bars=("a",)), Unit("a", bars=("b",))])
        self.assertEqual(at_once(shelf, ("a", "on")), [("b", "off")])

    def test_needs_and_bars_that_are_not_on_the_shelf(self):
        shelf = Shelf([Unit("a", needs=("x",), bars=("y",))])
        self.assertEqual(at_once(shelf, ("a", "on")), [])
        self.assertEqual(at_once(shelf, ("a", "off")), [])

    def test_of_each_name_with_either_way(self):
        for shelf in [MIXED, *some_shelves(8, 150, most=3)]:
            for demand in each_demand(shelf):
                told = at_once(shelf, demand)
                self.assertIs(type(told), list)
                self.assertEqual(told, told_at_once(shelf, demand))

    def test_by_name(self):
        self.assertEqual(at_once(demand=("net", "on"), shelf=MIXED), [("disk", "on")])
        self.assertEqual(list(inspect.signature(at_once).parameters), ["shelf", "demand"])


class Followed(ChainCase):
    def test_of_no_demands(self):
        self.assertEqual(followed(MIXED, []), [])
        self.assertEqual(followed(Shelf(), []), [])

    def test_of_one(self):
        shelf = Shelf([Unit("d", needs=("c",)), Unit("c", needs=("a",), bars=("b",)), Unit("a"), Unit("b"),
                       Unit("e", needs=("b",)), Unit("f", wants=("a",), after=("b",))])
        self.assertEqual(followed(shelf, [("d", "on")]),
                         [("a", "on"), ("b", "off"), ("c", "on"), ("d", "on"), ("e", "off")])
        self.assertEqual(followed(shelf, [("a", "off")]), [("a", "off"), ("c", "off"), ("d", "off")])
        self.assertEqual(followed(shelf, [("f", "on")]), [("f", "on")])
        self.assertEqual(followed(shelf, [("f", "off")]), [("f", "off")])

    def test_of_several_and_of_one_twice(self):
        shelf = shelf_of(a=(), b="a", c="b", d="")
        self.assertEqual(followed(shelf, [("d", "on"), ("b", "on")]), [("a", "on"), ("b", "on"), ("d", "on")])
        self.assertEqual(followed(shelf, [("b", "on"), ("b", "on")]), [("a", "on"), ("b", "on")])
        self.assertEqual(followed(shelf, [("b", "on"), ("d", "off"), ("b", "on"), ("d", "off")]),
                         [("a", "on"), ("b", "on"), ("d", "off")])

    def test_both_ways_of_one(self):
        shelf = shelf_of(a=(), b="a")
        self.assertEqual(followed(shelf, [("a", "on"), ("a", "off")]), [("a", "off"), ("a", "on"), ("b", "off")])
        self.assertEqual(followed(MIXED, [("both", "on")]),
                         [("both", "off"), ("both", "on"), ("demo", "off"), ("disk", "off"), ("disk", "on"),
                          ("log", "off"), ("net", "off"), ("web", "off")])

    def test_in_a_ring_of_needs(self):
        shelf = shelf_of(a="b", b="c", c="a")
        self.assertEqual(followed(shelf, [("b", "on")]), [("a", "on"), ("b", "on"), ("c", "on")])
        self.assertEqual(followed(shelf, [("b", "off")]), [("a", "off"), ("b", "off"), ("c", "off")])

    def test_along_sixteen(self):
        shelf = Shelf([Unit(name, needs=SIXTEEN[at + 1:at + 2]) for at, name in enumerate(SIXTEEN)])
        self.assertEqual(followed(shelf, [(SIXTEEN[0], "on")]), sorted((name, "on") for name in SIXTEEN))
        self.assertEqual(followed(shelf, [(SIXTEEN[-1], "off")]), sorted((name, "off") for name in SIXTEEN))

    def test_of_many(self):
        source = Random(8)
        refused = 0
        for shelf in some_shelves(9, 400):
            demands = some_demands(source, shelf)
            right = told_by_steps(shelf, demands)
            if lacking(shelf, right):
                refused += 1
                self.assert_lack(shelf, demands)
            else:
                told = followed(shelf, demands)
                self.assertIs(type(told), list)
                self.assertEqual(told, sorted(right))
        self.assertTrue(50 < refused < 350)

    def test_lack_of_what_a_demand_itself_needs(self):
        shelf = shelf_of(a=("b", "x"), b="")
        refusal = self.assert_lack(shelf, [("a", "on")])
        self.assertEqual((refusal.missing, refusal.chain), ("x", [("a", "on")]))

    def test_lack_further_on(self):
        shelf = shelf_of(a="b", b="c", c=("d", "x"), d="")
        refusal = self.assert_lack(shelf, [("a", "on")])
        self.assertEqual((refusal.missing, refusal.chain), ("x", [("a", "on"), ("b", "on"), ("c", "on")]))
        refusal = self.assert_lack(shelf, [("d", "on"), ("b", "on"), ("d", "off")])
        self.assertEqual((refusal.missing, refusal.chain), ("x", [("b", "on"), ("c", "on")]))

    def test_lack_in_several_places(self):
        shelf = shelf_of(a=("b", "x", "y"), b="z", c="a")
        for demands in ([("c", "on")], [("b", "on")], [("a", "on"), ("b", "on")], [("c", "on"), ("c", "on")]):
            self.assert_lack(shelf, demands)

    def test_lack_in_a_ring_of_needs(self):
        shelf = shelf_of(a="b", b="c", c=("a", "x"))
        for name in "abc":
            self.assertEqual(self.assert_lack(shelf, [(name, "on")]).missing, "x")

    def test_lack_where_there_is_a_clash_too(self):
        shelf = Shelf([Unit("a", needs=("b", "x"), bars=("b",)), Unit("b")])
        self.assertEqual(self.assert_lack(shelf, [("a", "on")]).missing, "x")

    def test_off_lacks_nothing(self):
        shelf = shelf_of(a=("b", "x"), b="y", c="")
        self.assertEqual(followed(shelf, [("a", "off")]), [("a", "off")])
        self.assertEqual(followed(shelf, [("b", "off")]), [("a", "off"), ("b", "off")])
        self.assertEqual(followed(shelf, [("c", "on"), ("b", "off")]), [("a", "off"), ("b", "off"), ("c", "on")])
        barring = Shelf([Unit("a", needs=("x",)), Unit("b", bars=("a",))])
        self.assertEqual(followed(barring, [("b", "on")]), [("a", "off"), ("b", "on")])

    def test_wants_bars_and_after_lack_nothing(self):
        shelf = Shelf([Unit("a", kind="door", wants=("x",), bars=("x",), after=("x",), opens="x")])
        self.assertEqual(followed(shelf, [("a", "on")]), [("a", "on")])

    def test_by_name(self):
        self.assertEqual(followed(demands=[("disk", "off")], shelf=shelf_of(disk="")), [("disk", "off")])
        self.assertEqual(list(inspect.signature(followed).parameters), ["shelf", "demands"])


class Chains(ChainCase):
    def test_the_goal_is_one_of_the_demands(self):
        shelf = shelf_of(a="b", b="a", c="")
        self.assertEqual(chain(shelf, [("a", "on")], ("a", "on")), [("a", "on")])
        self.assertEqual(chain(shelf, [("b", "on"), ("a", "on")], ("a", "on")), [("a", "on")])
        self.assertEqual(chain(shelf, [("a", "on"), ("b", "on"), ("a", "on")], ("a", "on")), [("a", "on")])
        self.assertEqual(chain(shelf, [("c", "off")], ("c", "off")), [("c", "off")])

    def test_some_links_away(self):
        shelf = Shelf([Unit("a", needs=("b",)), Unit("b", bars=("c",)), Unit("c"), Unit("d", needs=("c",))])
        self.assertEqual(chain(shelf, [("a", "on")], ("d", "off")),
                         [("a", "on"), ("b", "on"), ("c", "off"), ("d", "off")])
        self.assertEqual(chain(shelf, [("c", "off")], ("d", "off")), [("c", "off"), ("d", "off")])

    def test_several_ways_of_unlike_length(self):
        shelf = shelf_of(a=("b", "e"), b="c", c="d", d="f", e="f", f="g", g="")
        self.assertEqual(chain(shelf, [("a", "on")], ("g", "on")),
                         [("a", "on"), ("e", "on"), ("f", "on"), ("g", "on")])
        self.assertEqual(chain(shelf, [("a", "on"), ("d", "on")], ("g", "on")),
                         [("d", "on"), ("f", "on"), ("g", "on")])
        self.assertEqual(chain(shelf, [("d", "on"), ("a", "on")], ("g", "on")),
                         [("d", "on"), ("f", "on"), ("g", "on")])
        self.assertEqual(chain(shelf, [("g", "off")], ("a", "off")),
                         [("g", "off"), ("f", "off"), ("e", "off"), ("a", "off")])

    def test_several_ways_of_the_same_length(self):
        shelf = shelf_of(a=("b", "c"), b="d", c="d", d="")
        links = chain(shelf, [("a", "on")], ("d", "on"))
        self.assertEqual(len(links), 3)
        self.assert_chain(shelf, [("a", "on")], links, ("d", "on"))

    def test_the_goal_does_not_follow(self):
        shelf = shelf_of(a="b", b="", c="")
        for demands, goal in (([("a", "on")], ("c", "on")), ([("a", "on")], ("b", "off")), ([], ("a", "on")),
                              ([("b", "on")], ("a", "on")), ([("a", "off")], ("b", "off")),
                              ([("a", "on"), ("c", "off")], ("c", "on"))):
            self.assertIsNone(chain(shelf, demands, goal))

    def test_a_goal_that_is_on_no_shelf(self):
        shelf = Shelf([Unit("a", needs=("x", "b"), bars=("y",)), Unit("b")])
        for name in ("x", "y", "z"):
            for way in ("on", "off"):
                self.assertIsNone(chain(shelf, [("a", "on"), ("b", "off")], (name, way)))
        self.assertIsNone(chain(Shelf(), [], ("a", "on")))

    def test_needs_that_are_not_on_the_shelf_refuse_nothing(self):
        shelf = shelf_of(a=("x", "b"), b="")
        self.assertEqual(chain(shelf, [("a", "on")], ("b", "on")), [("a", "on"), ("b", "on")])

    def test_of_many(self):
        source = Random(9)
        for shelf in some_shelves(10, 200):
            demands = some_demands(source, shelf)
            kept = list(demands)
            steps = told_by_steps(shelf, demands)
            for goal in [*each_demand(shelf), ("x", "on"), ("x", "off")]:
                links = chain(shelf, demands, goal)
                if goal in steps:
                    self.assert_chain(shelf, demands, links, goal)
                    self.assertEqual(len(links), steps[goal] + 1)
                else:
                    self.assertIsNone(links)
            self.assertEqual(demands, kept)

    def test_by_name(self):
        self.assertEqual(chain(goal=("a", "on"), demands=[("a", "on")], shelf=shelf_of(a="")), [("a", "on")])
        self.assertEqual(list(inspect.signature(chain).parameters), ["shelf", "demands", "goal"])


class Clashes(unittest.TestCase):
    def test_none(self):
        for demands in ([], [("a", "on")], [("a", "off")], [("a", "on"), ("b", "off")], [("a", "on"), ("a", "on")],
                        [("a", "off"), ("a", "off"), ("b", "on")], [("a", "on"), ("aa", "off")]):
            self.assertIsNone(clash_in(demands))

    def test_one(self):
        for demands in itertools.permutations([("b", "on"), ("a", "on"), ("b", "off"), ("c", "off")]):
            self.assertEqual(clash_in(list(demands)), "b")

    def test_several(self):
        demands = [(name, way) for way in ("on", "off") for name in ("zz", "b", "ba", "z")]
        self.assertEqual(clash_in(demands), "b")
        self.assertEqual(clash_in(demands[::-1]), "b")
        self.assertEqual(clash_in(demands + [("a", "on"), ("aa", "off")]), "b")

    def test_one_demand_twice(self):
        self.assertEqual(clash_in([("b", "on"), ("b", "on"), ("b", "off")]), "b")
        self.assertIsNone(clash_in([("b", "off"), ("b", "off")]))

    def test_of_what_follows(self):
        self.assertEqual(clash_in(followed(MIXED, [("both", "on")])), "both")

    def test_many(self):
        demands = [("x" * 7 + chr(97 + at % 26), "on") for at in range(300)]
        self.assertIsNone(clash_in(demands))
        self.assertEqual(clash_in(demands + [("xxxxxxxc", "off"), ("xxxxxxxb", "off")]), "xxxxxxxb")

    def test_by_name_and_unchanged(self):
        demands = [("b", "on"), ("a", "off"), ("b", "off")]
        self.assertEqual(clash_in(demands=demands), "b")
        self.assertEqual(demands, [("b", "on"), ("a", "off"), ("b", "off")])
        self.assertEqual(list(inspect.signature(clash_in).parameters), ["demands"])


class WhatIsHandedInAndTold(ChainCase):
    def test_the_lists_handed_in_stay_as_they_are(self):
        before = shelf_fields(MIXED)
        demands = [("net", "on"), ("disk", "on"), ("net", "on")]
        followed(MIXED, demands)
        chain(MIXED, demands, ("disk", "on"))
        clash_in(demands)
        self.assertEqual(demands, [("net", "on"), ("disk", "on"), ("net", "on")])
        self.assertEqual(shelf_fields(MIXED), before)

    def test_told_lists_are_the_askers_own(self):
        shelf = shelf_of(a="b", b="")
        demands = [("a", "on")]
        for ask in (lambda: at_once(shelf, ("a", "on")), lambda: at_once(shelf, ("b", "off")),
                    lambda: followed(shelf, demands), lambda: chain(shelf, demands, ("b", "on")),
                    lambda: chain(shelf, demands, ("a", "on"))):
            told = ask()
            right = list(told)
            self.assertIsNot(told, demands)
            told.clear()
            demands_before = list(demands)
            self.assertEqual(ask(), right)
            self.assertEqual(demands, demands_before)

    def test_nothing_done_later_changes_what_was_told(self):
        shelf = shelf_of(a=("b", "x"), b="")
        demands = [("b", "on")]
        told, links = followed(shelf, demands), chain(shelf, demands, ("b", "on"))
        demands.append(("a", "off"))
        self.assertEqual((told, links), ([("b", "on")], [("b", "on")]))
        asked = [("a", "on")]
        refusal = self.assert_lack(shelf, asked)
        asked.clear()
        self.assertEqual(refusal.chain, [("a", "on")])
        refusal.chain.clear()
        self.assertEqual(self.assert_lack(shelf, [("a", "on")]).chain, [("a", "on")])

    def test_what_was_told_may_be_handed_in_again(self):
        shelf = shelf_of(a="b", b="c", c="")
        told = followed(shelf, [("a", "on")])
        self.assertEqual(followed(shelf, told), told)
        self.assertEqual(followed(shelf, chain(shelf, told, ("c", "on"))), [("c", "on")])

    def test_lack_is_not_no_unit(self):
        with self.assertRaises(Lack) as caught:
            followed(shelf_of(a="x"), [("a", "on")])
        self.assertNotIsInstance(caught.exception, NoUnit)


if __name__ == "__main__":
    unittest.main()
