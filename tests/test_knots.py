"""Knots and orders: promise 11."""

import inspect
import itertools
import unittest
from random import Random

from tests.model import knotted, waits_for
from tests.things import SIXTEEN, shelf_fields, shelf_of, some_shelves
from unitwants.errors import Knot, UnitError
from unitwants.knots import knot_in, order_of
from unitwants.shelves import Shelf
from unitwants.units import Unit


def is_right_order(shelf, names, order):
    """Whether always the least one comes next that may."""
    for at in range(len(names)):
        left = sorted(set(names) - set(order[:at]))
        free = [name for name in left if not any(waits_for(shelf, name, other) for other in left)]
        if order[at] != free[0]:
            return False
    return len(order) == len(names)


class KnotCase(unittest.TestCase):
    def assert_ring(self, shelf, names, ring):
        self.assertIs(type(ring), list)
        self.assertGreater(len(ring), 1)
        self.assertEqual(len(set(ring)), len(ring))
        self.assertLessEqual(set(ring), set(names))
        for name, other in zip(ring, ring[1:] + ring[:1]):
            self.assertTrue(waits_for(shelf, name, other), (name, other))

    def assert_knot(self, shelf, names):
        kept = list(names)
        self.assert_ring(shelf, names, knot_in(shelf, names))
        with self.assertRaises(Knot) as caught:
            order_of(shelf, names)
        self.assertIsInstance(caught.exception, UnitError)
        self.assert_ring(shelf, names, caught.exception.ring)
        self.assertEqual(names, kept)
        return caught.exception.ring

    def assert_order(self, shelf, names, order):
        kept = list(names)
        self.assertIsNone(knot_in(shelf, names))
        told = order_of(shelf, names)
        self.assertIs(type(told), list)
        self.assertEqual(told, order)
        self.assertEqual(names, kept)

    def assert_order_of_each(self, shelf, names, order):
        for handed in itertools.permutations(names):
            self.assert_order(shelf, list(handed), order)


class WithoutKnots(KnotCase):
    def test_no_names(self):
        self.assert_order(Shelf(), [], [])
        self.assert_order(shelf_of(a="b", b="a"), [], [])

    def test_one(self):
        shelf = shelf_of(a=("b", "x"), b="a")
        self.assert_order(shelf, ["a"], ["a"])
        self.assert_order(shelf, ["b"], ["b"])

    def test_those_that_wait_for_none(self):
        self.assert_order_of_each(shelf_of(b="", a="", ab="", c=""), ["c", "b", "ab", "a"], ["a", "ab", "b", "c"])

    def test_needs(self):
        self.assert_order_of_each(shelf_of(a="b", b="c", c="d", d=""), list("abcd"), ["d", "c", "b", "a"])

    def test_after(self):
        shelf = Shelf([Unit("a", after=("c",)), Unit("b", after=("a", "gone")), Unit("c"), Unit("d")])
        self.assert_order_of_each(shelf, list("abcd"), ["c", "a", "b", "d"])

    def test_doors_that_open(self):
        shelf = Shelf([Unit("a"), Unit("y", kind="door", opens="a"), Unit("z", kind="door", opens="a"), Unit("b")])
        self.assert_order_of_each(shelf, ["a", "b", "y", "z"], ["b", "y", "z", "a"])

    def test_wants_and_bars_wait_for_none(self):
        shelf = Shelf([Unit("a", wants=("b",), bars=("b",)), Unit("b", wants=("a",), bars=("a",))])
        self.assert_order_of_each(shelf, ["a", "b"], ["a", "b"])

    def test_the_least_next_one_not_the_least_of_a_row(self):
        # When d is there, a may come at once, ahead of e, which could have come with d.
        self.assert_order_of_each(shelf_of(a="d", b="e", d="", e=""), list("abde"), ["d", "a", "e", "b"])
        self.assert_order_of_each(shelf_of(a="c", b="", c="", d="a"), list("abcd"), ["b", "c", "a", "d"])

    def test_those_outside_the_names_hold_up_none(self):
        shelf = shelf_of(a="b", b="c", c="a", d="a")
        self.assert_order_of_each(shelf, ["a", "b"], ["b", "a"])
        self.assert_order_of_each(shelf, ["a", "c", "d"], ["a", "c", "d"])
        self.assert_order_of_each(shelf, ["c", "d"], ["c", "d"])

    def test_sixteen(self):
        shelf = Shelf([Unit(name, after=SIXTEEN[at + 1:at + 2]) for at, name in enumerate(SIXTEEN)])
        self.assert_order(shelf, list(SIXTEEN), list(SIXTEEN[::-1]))
        self.assert_order(shelf, list(SIXTEEN[::-1]), list(SIXTEEN[::-1]))
        self.assert_order(shelf, sorted(SIXTEEN), list(SIXTEEN[::-1]))


class WithKnots(KnotCase):
    def test_a_ring_of_two(self):
        for shelf in (shelf_of(a="b", b="a"), Shelf([Unit("a", after=("b",)), Unit("b", after=("a",))]),
                      Shelf([Unit("a", needs=("b",)), Unit("b", after=("a",))]),
                      Shelf([Unit("a", kind="door", opens="b", after=("b",)), Unit("b")]),
                      Shelf([Unit("a", kind="door", opens="b", needs=("b",)), Unit("b")]),
                      Shelf([Unit("a", kind="door", opens="b"), Unit("b", kind="door", opens="a")])):
            for names in (["a", "b"], ["b", "a"]):
                self.assertEqual(sorted(self.assert_knot(shelf, names)), ["a", "b"])

    def test_a_ring_of_three_goes_the_right_way_round(self):
        shelf = shelf_of(a="c", b="a", c="b")
        for names in itertools.permutations("abc"):
            ring = self.assert_knot(shelf, list(names))
            at = ring.index("a")
            self.assertEqual(ring[at:] + ring[:at], ["a", "c", "b"])

    def test_a_ring_of_sixteen(self):
        shelf = Shelf([Unit(name, after=(SIXTEEN[at - 1],)) for at, name in enumerate(SIXTEEN)])
        self.assertEqual(sorted(self.assert_knot(shelf, list(SIXTEEN))), sorted(SIXTEEN))
        for name in SIXTEEN:
            self.assertIsNone(knot_in(shelf, [other for other in SIXTEEN if other != name]))

    def test_names_outside_the_ring(self):
        # z waits for the ring, a is waited for by it, f stands alone.
        shelf = Shelf([Unit("z", needs=("c",)), Unit("c", needs=("d", "a")), Unit("d", after=("c",)), Unit("a"),
                       Unit("f")])
        for names in itertools.permutations("zcdaf"):
            self.assertEqual(sorted(self.assert_knot(shelf, list(names))), ["c", "d"])

    def test_a_long_way_to_the_ring(self):
        shelf = shelf_of(a="b", b="c", c="d", d="e", e="d")
        for names in itertools.permutations("abcde"):
            self.assertEqual(sorted(self.assert_knot(shelf, list(names))), ["d", "e"])

    def test_two_rings(self):
        shelf = shelf_of(a="b", b="a", c="d", d="c", e=("a", "c"))
        for names in itertools.permutations("abcde"):
            self.assertIn(sorted(self.assert_knot(shelf, list(names))), (["a", "b"], ["c", "d"]))

    def test_some_of_the_names_alone(self):
        shelf = shelf_of(a=("b", "c"), b="a", c="a")
        self.assertEqual(sorted(self.assert_knot(shelf, ["c", "a"])), ["a", "c"])
        self.assert_order(shelf, ["c", "b"], ["b", "c"])


class Many(KnotCase):
    def test_of_many(self):
        source = Random(11)
        refused = 0
        for shelf in some_shelves(11, 500, most=1):
            names = source.sample(shelf.names(), source.randint(0, len(shelf)))
            if knotted(shelf, names):
                refused += 1
                self.assert_knot(shelf, names)
            else:
                order = order_of(shelf, names)
                self.assertTrue(is_right_order(shelf, names, order), (names, order))
                self.assert_order(shelf, names, order)
                self.assert_order(shelf, sorted(names), order)
                self.assert_order(shelf, names[::-1], order)
        self.assertTrue(50 < refused < 450, refused)


class WhatIsHandedInAndTold(KnotCase):
    def test_by_name(self):
        shelf = shelf_of(a="b", b="")
        self.assertIsNone(knot_in(names=["a"], shelf=shelf))
        self.assertEqual(order_of(names=["a", "b"], shelf=shelf), ["b", "a"])
        for function in (knot_in, order_of):
            self.assertEqual(list(inspect.signature(function).parameters), ["shelf", "names"])

    def test_told_lists_are_the_askers_own(self):
        shelf = shelf_of(a="b", b="a", c="")
        before = shelf_fields(shelf)
        for ask in (lambda: knot_in(shelf, ["a", "b"]), lambda: order_of(shelf, ["b", "c"])):
            told = ask()
            right = list(told)
            told.clear()
            self.assertEqual(ask(), right)
        self.assert_knot(shelf, ["a", "b"]).clear()
        self.assert_knot(shelf, ["a", "b"])
        self.assertEqual(shelf_fields(shelf), before)

    def test_nothing_done_later_changes_what_was_told(self):
        shelf = shelf_of(a="", b="")
        names = ["b", "a"]
        order = order_of(shelf, names)
        self.assertIsNot(order, names)
        names.clear()
        self.assertEqual(order, ["a", "b"])
        one = ["a"]
        told = order_of(shelf, one)
        one.append("b")
        self.assertEqual(told, ["a"])


if __name__ == "__main__":
    unittest.main()
