"""Papers: promise 15."""

import inspect
import unittest
from random import Random

from tests.model import behind_told, plan_told, told_by_steps, waits_for
from tests.plan_cases import PlanCase
from tests.things import NO_NAMES, four, shelf_fields, shelf_of, some_shelves, some_stand
from unitwants.errors import NoUnit
from unitwants.papers import paper_on
from unitwants.plans import plan_on
from unitwants.shelves import Shelf
from unitwants.stands import Stand
from unitwants.units import Unit


def is_plain(thing):
    """Whether it is built of tuples, texts and whole numbers alone."""
    if type(thing) is tuple:
        return all(is_plain(part) for part in thing)
    return type(thing) in (str, int)


class PaperCase(PlanCase):
    def assert_order(self, shelf, stand, demands, order):
        wished, up, later, back = behind_told(stand, [row[:2] for row in demands])
        self.assertEqual(sorted(order), sorted(set(wished) - set(up)))
        for at, name in enumerate(order):
            for other in order[at + 1:]:
                self.assertFalse(waits_for(shelf, name, other), order)

    def assert_paper(self, shelf, stand, name):
        """All that promise 15 says of the paper that is told."""
        before = (shelf_fields(shelf), four(stand))
        paper = paper_on(shelf, stand, name)
        word, told = plan_told(shelf, stand, name)
        self.assertTrue(is_plain(paper))
        self.assertEqual(paper[:2], (word, name))
        if word == "plan":
            plan = plan_on(shelf, stand, name)
            start, same, demands, dropped, order = paper
            self.assertEqual((demands, dropped), (plan.demands, plan.dropped))
            self.assert_plan_on(shelf, stand, name, plan)
            self.assert_order(shelf, stand, demands, order)
        elif word == "lack":
            start, same, links, missing = paper
            self.assert_lacks(shelf, name, links, missing)
        elif word == "clash":
            start, same, one, other = paper
            self.assert_links(shelf, one, (name, "on"), (one[-1][0], "on"))
            self.assert_links(shelf, other, (name, "on"), (one[-1][0], "off"))
        else:
            start, same, ring = paper
            wished, up, later, back = behind_told(stand, told_by_steps(shelf, [(name, "on")]))
            self.assert_ring(shelf, set(wished) - set(up), ring)
        self.assertEqual(paper_on(shelf, stand, name), paper)
        self.assertEqual((shelf_fields(shelf), four(stand)), before)
        return paper


class Papers(PaperCase):
    def test_of_a_plan(self):
        shelf = Shelf([Unit("a", needs=("b",), wants=("x",), bars=("c",)), Unit("b", after=("d",)), Unit("c"),
                       Unit("d"), Unit("e")])
        paper = self.assert_paper(shelf, Stand(wished=("d", "e"), up=("e",)), "a")
        self.assertEqual(paper[0], "plan")
        self.assertEqual(sorted(paper[2]), [("a", "on", -1), ("b", "on", 0), ("c", "off", 0)])
        self.assertEqual(paper[3], (("a", "x", "lack"),))
        self.assertEqual(paper[4], ("d", "b", "a"))

    def test_of_a_plan_behind_which_nothing_is_open(self):
        paper = self.assert_paper(shelf_of(a="", b=""), Stand(wished=("b",), up=("a", "b")), "a")
        self.assertEqual(paper, ("plan", "a", (("a", "on", -1),), (), ()))

    def test_the_order_has_those_that_wants_bring(self):
        shelf = Shelf([Unit("a", wants=("b",), after=("b",)), Unit("b", needs=("c",)), Unit("c")])
        self.assertEqual(self.assert_paper(shelf, Stand(), "a")[4], ("c", "b", "a"))

    def test_the_order_has_none_that_goes_off(self):
        shelf = Shelf([Unit("a", bars=("b",)), Unit("b"), Unit("c", needs=("b",))])
        self.assertEqual(self.assert_paper(shelf, Stand(wished=("b", "c")), "a")[4], ("a",))

    def test_of_a_lack(self):
        shelf = shelf_of(a="b", b=("c", "x"), c="")
        self.assertEqual(self.assert_paper(shelf, Stand(), "a"), ("lack", "a", (("a", "on"), ("b", "on")), "x"))
        self.assertEqual(self.assert_paper(shelf, Stand(), "b"), ("lack", "b", (("b", "on"),), "x"))

    def test_of_a_clash(self):
        shelf = Shelf([Unit("z", needs=("b", "c")), Unit("b"), Unit("c", bars=("b",))])
        self.assertEqual(self.assert_paper(shelf, Stand(), "z")[0], "clash")
        shelf = Shelf([Unit("a", needs=("b",)), Unit("b", bars=("a",))])
        self.assertEqual(self.assert_paper(shelf, Stand(), "a")[0], "clash")

    def test_of_a_knot(self):
        paper = self.assert_paper(shelf_of(a="b", b="c", c="b"), Stand(), "a")
        self.assertIn(paper, (("knot", "a", ("b", "c")), ("knot", "a", ("c", "b"))))
        shelf = Shelf([Unit("a", after=("b",)), Unit("b", after=("a",))])
        self.assertEqual(self.assert_paper(shelf, Stand(wished=("b",)), "a")[0], "knot")
        self.assertEqual(self.assert_paper(shelf, Stand(wished=("b",), up=("b",)), "a")[0], "plan")

    def test_the_first_word_that_is_due(self):
        shelf = Shelf([Unit("a", needs=("b", "c", "x"), bars=("c",)), Unit("b", after=("a",)), Unit("c")])
        self.assertEqual(self.assert_paper(shelf, Stand(), "a")[0], "lack")
        shelf = Shelf([Unit("a", needs=("b", "c"), bars=("c",)), Unit("b", after=("a",)), Unit("c")])
        self.assertEqual(self.assert_paper(shelf, Stand(), "a")[0], "clash")
        shelf = Shelf([Unit("a", needs=("b", "x")), Unit("b", after=("a",))])
        self.assertEqual(self.assert_paper(shelf, Stand(), "a")[0], "lack")

    def test_no_unit_of_any_thing(self):
        for shelf in (Shelf(), shelf_of(a="x", b="")):
            for name in NO_NAMES:
                with self.assertRaises(NoUnit) as caught:
                    paper_on(shelf, Stand(), name)
                self.assertEqual(caught.exception.name, name)
                self.assertIs(type(caught.exception.name), type(name))

    def test_by_name(self):
        paper = paper_on(name="a", stand=Stand(), shelf=shelf_of(a=""))
        self.assertEqual(paper, ("plan", "a", (("a", "on", -1),), (), ("a",)))
        self.assertEqual(list(inspect.signature(paper_on).parameters), ["shelf", "stand", "name"])

    def test_of_many(self):
        source = Random(15)
        counts = {}
        for most in (1, 2):
            for shelf in some_shelves(15 + most, 200, most=most):
                stand = some_stand(source, shelf)
                for name in shelf.names():
                    word = self.assert_paper(shelf, stand, name)[0]
                    counts[word] = counts.get(word, 0) + 1
        self.assertGreater(min(counts[word] for word in ("plan", "lack", "clash", "knot")), 20, counts)


if __name__ == "__main__":
    unittest.main()
