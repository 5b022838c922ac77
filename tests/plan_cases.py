"""What the tests of plans and papers share."""

import unittest

from tests.model import lacking, plan_told, told_at_once, told_by_steps, waits_for, wants_told


class PlanCase(unittest.TestCase):
    """The form of what plans and refusals tell."""

    def assert_demands(self, shelf, stand, name, way, demands):
        """Promise 14: the first one, the causes, no name twice."""
        self.assertIs(type(demands), tuple)
        self.assertEqual(demands[0], (name, way, -1))
        for at, row in enumerate(demands):
            self.assertIs(type(row), tuple)
            self.assertEqual([type(part) for part in row], [str, str, int])
            if at > 0:
                other, turn, cause = row
                self.assertTrue(0 <= cause < at, demands)
                asker, asked = demands[cause][:2]
                wanted = asked == turn == "on" and other in wants_told(shelf, stand, asker)
                self.assertTrue(wanted or (other, turn) in told_at_once(shelf, (asker, asked)), (demands, at))
        self.assertEqual(len({row[0] for row in demands}), len(demands))

    def assert_plan_on(self, shelf, stand, name, plan):
        """All that promises 13 and 14 say of a plan to turn on."""
        word, (right, dropped) = plan_told(shelf, stand, name)
        self.assertEqual(word, "plan")
        self.assertEqual((plan.name, plan.way), (name, "on"))
        self.assert_demands(shelf, stand, name, "on", plan.demands)
        self.assertEqual({row[:2] for row in plan.demands}, right)
        self.assertEqual(len(plan), len(right))
        self.assertIs(type(plan.dropped), tuple)
        self.assertEqual(plan.dropped, tuple(dropped))

    def assert_links(self, shelf, links, first, last):
        self.assertEqual((links[0], links[-1]), (first, last))
        for one, other in zip(links, links[1:]):
            self.assertIn(other, told_at_once(shelf, one))
        for link in links:
            self.assertIs(type(link), tuple)

    def assert_lacks(self, shelf, name, links, missing):
        other, way = links[-1]
        self.assertIn((other, missing), lacking(shelf, told_by_steps(shelf, [(name, "on")])))
        self.assert_links(shelf, links, (name, "on"), (other, "on"))

    def assert_ring(self, shelf, names, ring):
        self.assertGreater(len(ring), 1)
        self.assertEqual(len(set(ring)), len(ring))
        self.assertLessEqual(set(ring), set(names))
        for name, other in zip(ring, (*ring[1:], ring[0])):
            self.assertTrue(waits_for(shelf, name, other), ring)
