"""Falls and wakings: promises 20 and 21."""

import unittest

from tests.machine_cases import MachineCase, bring_up, door, machine_of, settle, wishes
from unitwants.rules import Rule
from unitwants.units import Unit


def fall(machine, name, tick):
    """The work starts well and dies, all on one tick."""
    settle(machine, tick=tick)
    machine.died(name, tick=tick)


class GivenUp(MachineCase):
    def test_without_a_rule(self):
        machine = machine_of(Unit("a"), Unit("b", needs=("a",)), Unit("c", needs=("b",)), Unit("d", after=("a",)))
        bring_up(machine, "c", "d")
        machine.died("a", tick=1)
        self.assertEqual(wishes(machine), {"a": "off", "b": "off", "c": "off", "d": "on"})
        self.assertEqual((machine.falls("a"), machine.due("a")), ([], None))

    def test_by_a_bad_end_without_a_rule(self):
        machine = machine_of(Unit("a"), Unit("b", needs=("a",)))
        machine.turn_on("b", tick=0)
        machine.begin("a", tick=0)
        machine.ended("a", tick=0, good=False)
        self.assertEqual(wishes(machine), {"a": "off", "b": "off"})

    def test_by_the_rule(self):
        machine = machine_of(Unit("a", rule=Rule(first=2, times=3, burst=2, span=1000)), Unit("b", needs=("a",)))
        machine.turn_on("b", tick=0)
        fall(machine, "a", 10)
        self.assertEqual((machine.falls("a"), machine.due("a")), ([10], 12))
        self.assertEqual(machine.wake(tick=12), ["a"])
        fall(machine, "a", 15)
        self.assertEqual((machine.falls("a"), machine.due("a")), ([10, 15], 21))
        self.assertEqual(machine.wake(tick=21), ["a"])
        fall(machine, "a", 21)
        self.assertEqual((machine.falls("a"), machine.due("a")), ([], None))
        self.assertEqual(wishes(machine), {"a": "off", "b": "off"})
        bring_up(machine, "a", tick=22)
        fall(machine, "a", 22)
        self.assertEqual((machine.falls("a"), machine.due("a")), ([22], 24))

    def test_by_a_rule_that_waits_for_none(self):
        machine = machine_of(Unit("a", rule=Rule(burst=0)))
        bring_up(machine, "a")
        machine.died("a", tick=1)
        self.assertEqual((machine.wish("a"), machine.falls("a"), machine.due("a")), ("off", [], None))

    def test_those_that_are_later_or_back_are_off_too(self):
        rule = Rule(first=50)
        machine = machine_of(Unit("a"), Unit("b", needs=("a",), rule=rule), Unit("c", needs=("b",)),
                             Unit("d", rule=rule), Unit("e", needs=("a", "d")))
        bring_up(machine, "c", "e")
        machine.died("b", tick=1)
        machine.died("d", tick=1)
        self.assertEqual(wishes(machine), {"a": "on", "b": "later", "c": "back", "d": "later", "e": "back"})
        machine.died("a", tick=2)
        self.assertEqual(wishes(machine), {"a": "off", "b": "off", "c": "off", "d": "later", "e": "off"})
        self.assertEqual((machine.due("b"), machine.due("d")), (None, 51))
        self.assertEqual(machine.falls("b"), [1])


class Later(MachineCase):
    def test_the_due_tick(self):
        machine = machine_of(Unit("a", rule=Rule(first=5, times=2, top=12, burst=9, span=100)))
        machine.turn_on("a", tick=0)
        for tick, wait in ((3, 5), (20, 10), (40, 12), (60, 12), (161, 5), (261, 10)):
            fall(machine, "a", tick)
            self.assertEqual((machine.wish("a"), machine.due("a")), ("later", tick + wait))
            machine.wake(tick=tick + wait)
            self.assertEqual((machine.wish("a"), machine.due("a")), ("on", None))
        self.assertEqual(machine.falls("a"), [3, 20, 40, 60, 161, 261])

    def test_a_due_tick_beyond_the_last(self):
        machine = machine_of(Unit("a", rule=Rule(first=1000, top=10 ** 6)))
        bring_up(machine, "a")
        machine.died("a", tick=10 ** 6)
        self.assertEqual((machine.due("a"), machine.falls("a")), (10 ** 6 + 1000, [10 ** 6]))
        self.assertEqual(machine.wake(tick=10 ** 6), [])

    def test_two_falls_on_one_tick(self):
        machine = machine_of(Unit("a", rule=Rule(first=2, span=0)))
        bring_up(machine, "a")
        machine.died("a", tick=1)
        machine.turn_on("a", tick=1)
        fall(machine, "a", 1)
        self.assertEqual((machine.falls("a"), machine.due("a")), ([1, 1], 5))

    def test_back_at_any_remove(self):
        machine = machine_of(Unit("a", rule=Rule()), Unit("b", needs=("a",)), Unit("c", needs=("b",)),
                             door("d", "x", needs=("c",)), Unit("e", needs=("a",)), Unit("f", wants=("a",)),
                             Unit("g", after=("a",)))
        bring_up(machine, "d", "f", "g")
        machine.died("a", tick=1)
        self.assertEqual(wishes(machine), {"a": "later", "b": "back", "c": "back", "d": "back", "e": "off", "f": "on",
                                           "g": "on"})
        for name in "bcdefg":
            self.assertIsNone(machine.due(name))

    def test_those_that_are_later_come_back_too(self):
        machine = machine_of(Unit("a", rule=Rule(first=5)), Unit("b", needs=("a",), rule=Rule(first=50)),
                             Unit("c", needs=("b",)))
        bring_up(machine, "c")
        machine.died("b", tick=1)
        self.assertEqual((wishes(machine), machine.due("b")), ({"a": "on", "b": "later", "c": "back"}, 51))
        machine.died("a", tick=2)
        self.assertEqual(wishes(machine), {"a": "later", "b": "back", "c": "back"})
        self.assertEqual((machine.due("a"), machine.due("b"), machine.falls("b")), (7, None, [1]))
        self.assertEqual(machine.wake(tick=7), ["a"])
        self.assertEqual(wishes(machine), {"a": "on", "b": "on", "c": "on"})
        self.assertEqual(machine.wake(tick=51), [])

    def test_no_falls_of_those_that_come_back(self):
        machine = machine_of(Unit("a", rule=Rule()), Unit("b", needs=("a",), rule=Rule()))
        bring_up(machine, "b")
        machine.died("a", tick=1)
        self.assertEqual((machine.falls("a"), machine.falls("b")), ([1], []))


class Waking(MachineCase):
    def fallen(self):
        machine = machine_of(Unit("a", rule=Rule(first=10)), Unit("b", needs=("a",)))
        bring_up(machine, "b")
        machine.died("a", tick=5)
        return machine

    def test_ahead_of_on_and_behind_the_due_tick(self):
        for tick in (5, 6, 14):
            machine = self.fallen()
            self.assertEqual(machine.wake(tick=tick), [])
            self.assertEqual((wishes(machine), machine.due("a")), ({"a": "later", "b": "back"}, 15))
        for tick in (15, 16, 900):
            machine = self.fallen()
            self.assertEqual(machine.wake(tick=tick), ["a"])
            self.assertEqual(wishes(machine), {"a": "on", "b": "on"})
            self.assertEqual((machine.due("a"), machine.falls("a"), machine.last_tick()), (None, [5], tick))

    def test_the_order(self):
        units = [Unit(name, rule=Rule(first=first)) for name, first in
                 (("a", 9), ("b", 3), ("c", 3), ("d", 1), ("e", 30), ("f", 2))]
        machine = machine_of(*units)
        bring_up(machine, *"abcdef")
        for name in "abcdf":
            machine.died(name, tick=1)
        machine.died("e", tick=1)
        self.assertEqual(machine.wake(tick=20), ["d", "f", "b", "c", "a"])
        self.assertEqual(machine.wish("e"), "later")
        self.assertEqual(machine.wake(tick=31), ["e"])

    def test_the_order_tells_which_can_be_woken(self):
        # Each comes behind the other: whoever is woken first bars the other one, which is given up.
        for first, other in (("a", "b"), ("b", "a")):
            machine = machine_of(Unit(first, rule=Rule(first=3), after=(other,)),
                                 Unit(other, rule=Rule(first=5), after=(first,)))
            bring_up(machine, first)
            bring_up(machine, other)
            machine.died(first, tick=1)
            machine.died(other, tick=1)
            self.assertEqual(machine.wake(tick=9), [first])
            self.assertEqual((machine.wish(first), machine.wish(other)), ("on", "off"))
            self.assertEqual((machine.falls(first), machine.falls(other), machine.due(other)), ([1], [], None))

    def test_of_one_due_the_least_name(self):
        machine = machine_of(Unit("b", rule=Rule(first=3), after=("a",)), Unit("a", rule=Rule(first=3), after=("b",)))
        bring_up(machine, "b")
        bring_up(machine, "a")
        machine.died("b", tick=1)
        machine.died("a", tick=1)
        self.assertEqual(machine.wake(tick=4), ["a"])
        self.assertEqual(wishes(machine), {"a": "on", "b": "off"})

    def test_one_that_was_woken_with_another_is_not_told(self):
        machine = machine_of(Unit("a", rule=Rule(first=2), wants=("c",)), Unit("b", needs=("a",)), Unit("c"))
        bring_up(machine, "b")
        machine.turn_off("c", tick=0)
        machine.died("a", tick=1)
        self.assertEqual(machine.wake(tick=3), ["a"])
        self.assertEqual(wishes(machine), {"a": "on", "b": "on", "c": "on"})

    def test_one_that_needs_two_comes_with_the_last(self):
        machine = machine_of(Unit("a", rule=Rule(first=2)), Unit("b", rule=Rule(first=5)), Unit("c", needs=("a", "b")))
        bring_up(machine, "c")
        machine.died("a", tick=1)
        machine.died("b", tick=1)
        self.assertEqual(machine.wake(tick=3), ["a"])
        self.assertEqual(wishes(machine), {"a": "on", "b": "later", "c": "back"})
        self.assertEqual(machine.wake(tick=6), ["b"])
        self.assertEqual(wishes(machine), {"a": "on", "b": "on", "c": "on"})

    def test_both_at_one_waking(self):
        machine = machine_of(Unit("a", rule=Rule(first=2)), Unit("b", rule=Rule(first=5)), Unit("c", needs=("a", "b")))
        bring_up(machine, "c")
        machine.died("a", tick=1)
        machine.died("b", tick=1)
        self.assertEqual(machine.wake(tick=8), ["a", "b"])
        self.assertEqual(wishes(machine), {"a": "on", "b": "on", "c": "on"})

    def test_a_waking_that_is_refused(self):
        # a and b come behind each other; wished for while a is away, b bars its waking.
        machine = machine_of(Unit("a", rule=Rule(first=4), after=("b",)), Unit("b", after=("a",)),
                             Unit("c", needs=("a",)))
        bring_up(machine, "c")
        machine.died("a", tick=1)
        machine.turn_on("b", tick=1)
        self.assertEqual(wishes(machine), {"a": "later", "b": "on", "c": "back"})
        self.assertEqual(machine.wake(tick=5), [])
        self.assertEqual(wishes(machine), {"a": "off", "b": "on", "c": "off"})
        self.assertEqual((machine.falls("a"), machine.due("a")), ([], None))
        self.assertEqual(machine.wake(tick=6), [])

    def test_no_knot_where_the_other_one_is_up(self):
        machine = machine_of(Unit("a", rule=Rule(first=4), after=("b",)), Unit("b", after=("a",)))
        bring_up(machine, "a")
        machine.died("a", tick=1)
        bring_up(machine, "b", tick=1)
        self.assertEqual(machine.wake(tick=5), ["a"])
        settle(machine, tick=5)
        self.assertEqual((machine.state("a"), machine.state("b")), ("on", "on"))

    def test_waking_turns_nothing_off(self):
        machine = machine_of(Unit("a", rule=Rule(), wants=("b",)), Unit("b", bars=("c",)), Unit("c"))
        machine.turn_on("c", tick=0)
        bring_up(machine, "a")
        machine.died("a", tick=1)
        self.assertEqual(machine.wake(tick=2), ["a"])
        self.assertEqual(wishes(machine), {"a": "on", "b": "off", "c": "on"})

    def test_one_that_was_asked_for_or_turned_off_is_not_woken(self):
        machine = self.fallen()
        machine.turn_on("a", tick=6)
        self.assertEqual((machine.wake(tick=20), machine.falls("a")), ([], [5]))
        machine = self.fallen()
        machine.turn_off("a", tick=6)
        self.assertEqual((machine.wake(tick=20), wishes(machine)), ([], {"a": "off", "b": "off"}))

    def test_one_that_is_needed_by_one_that_is_asked_for(self):
        machine = self.fallen()
        machine.turn_on("b", tick=6)
        self.assertEqual((wishes(machine), machine.due("a"), machine.falls("a")), ({"a": "on", "b": "on"}, None, [5]))

    def test_nothing_to_wake(self):
        machine = machine_of(Unit("a"))
        told = machine.wake(tick=0)
        self.assertEqual(told, [])
        self.assertIs(type(told), list)


if __name__ == "__main__":
    unittest.main()
