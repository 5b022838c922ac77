"""Doors: promise 22."""

import unittest

from tests.machine_cases import MachineCase, bring_up, door, goal, machine_of, settle, snapshot, wishes
from unitwants.errors import Full, NoDoor, NotOn
from unitwants.rules import Rule
from unitwants.units import Unit


class Refused(MachineCase):
    def test_no_door(self):
        machine = machine_of(Unit("a"), goal("g"), door("d", "a"))
        for turn in range(2):
            for name in "ag":
                self.assert_refused(NoDoor, machine, lambda m: m.knock(name, tick=0))
            bring_up(machine, "a", "g", "d")

    def test_not_on(self):
        machine = machine_of(Unit("a"), door("d", "a"))
        self.assert_refused(NotOn, machine, lambda m: m.knock("d", tick=0))
        machine.turn_on("d", tick=0)
        self.assert_refused(NotOn, machine, lambda m: m.knock("d", tick=0))
        machine.begin("d", tick=0)
        self.assertEqual(machine.knock("d", tick=0), "kept")

    def test_full(self):
        for room in (1, 2, 9, 99):
            machine = machine_of(Unit("a"), door("d", "a"), room=room)
            bring_up(machine, "d")
            for many in range(room):
                self.assertEqual(machine.knock("d", tick=0), "kept")
                self.assertEqual(machine.kept("d"), many + 1)
            self.assert_refused(Full, machine, lambda m: m.knock("d", tick=0))
            settle(machine)
            self.assertEqual((machine.kept("d"), machine.knock("d", tick=0)), (0, "handed"))

    def test_nine_where_nothing_is_handed_in(self):
        machine = machine_of(Unit("a"), door("d", "a"))
        bring_up(machine, "d")
        for many in range(9):
            machine.knock("d", tick=0)
        self.assert_refused(Full, machine, lambda m: m.knock("d", tick=0))


class Knocks(MachineCase):
    def test_one_that_is_not_there(self):
        machine = machine_of(door("d", "x"))
        bring_up(machine, "d")
        for many in range(12):
            self.assertEqual(machine.knock("d", tick=3), "missed")
        self.assertEqual((machine.kept("d"), machine.last_tick()), (0, 3))
        machine.put(Unit("x"), tick=3)
        self.assertEqual(machine.knock("d", tick=3), "kept")
        self.assertEqual(machine.wish("x"), "on")

    def test_one_whose_wish_is_off_is_turned_on(self):
        machine = machine_of(door("d", "a"), Unit("a", needs=("b",), wants=("c",)), Unit("b"), Unit("c"))
        bring_up(machine, "d")
        self.assertEqual(machine.knock("d", tick=1), "kept")
        self.assertEqual(wishes(machine), {"a": "on", "b": "on", "c": "on", "d": "on"})
        self.assertEqual((machine.kept("d"), machine.kept("a")), (1, 0))
        self.assertEqual(machine.knock("d", tick=2), "kept")
        self.assertEqual(machine.kept("d"), 2)
        settle(machine, tick=3)
        self.assertEqual(machine.kept("d"), 0)
        self.assertEqual(machine.knock("d", tick=4), "handed")
        self.assertEqual(machine.kept("d"), 0)

    def test_its_falls_are_forgotten_as_it_is_turned_on(self):
        machine = machine_of(door("d", "a"), Unit("a", rule=Rule()))
        bring_up(machine, "d", "a")
        machine.died("a", tick=1)
        machine.turn_off("a", tick=1)
        self.assertEqual(machine.falls("a"), [1])
        machine.knock("d", tick=1)
        self.assertEqual((machine.wish("a"), machine.falls("a")), ("on", []))

    def test_one_that_can_not_be_turned_on(self):
        lacking = [Unit("a", needs=("x",))]
        clashing = [Unit("a", needs=("b",), bars=("b",)), Unit("b")]
        knotted = [Unit("a", needs=("b",)), Unit("b", after=("a",))]
        for units in (lacking, clashing, knotted):
            machine = machine_of(door("d", "a"), *units)
            bring_up(machine, "d")
            before = snapshot(machine)[0]
            self.assertEqual(machine.knock("d", tick=4), "missed")
            self.assertEqual(snapshot(machine)[0], before)
            self.assertEqual((machine.last_tick(), machine.kept("d")), (4, 0))

    def test_one_whose_wish_is_later_or_back(self):
        machine = machine_of(door("d", "a"), door("e", "b"), Unit("a", rule=Rule(first=9)), Unit("b", needs=("a",)))
        bring_up(machine, "b", "d", "e")
        machine.died("a", tick=1)
        self.assertEqual((machine.knock("d", tick=2), machine.knock("e", tick=2)), ("kept", "kept"))
        self.assertEqual((machine.wish("a"), machine.wish("b"), machine.due("a")), ("later", "back", 10))
        settle(machine, tick=3)
        self.assertEqual((machine.kept("d"), machine.kept("e")), (1, 1))
        machine.wake(tick=10)
        settle(machine, tick=10)
        self.assertEqual((machine.kept("d"), machine.kept("e")), (0, 0))

    def test_one_whose_wish_is_on_and_that_is_not_on_yet(self):
        machine = machine_of(door("d", "a"), Unit("a", needs=("b",)), Unit("b"))
        bring_up(machine, "d")
        machine.turn_on("a", tick=0)
        self.assertEqual(machine.knock("d", tick=0), "kept")
        machine.begin("b", tick=0)
        machine.ended("b", tick=0)
        machine.begin("a", tick=0)
        self.assertEqual((machine.kept("d"), machine.knock("d", tick=0)), (1, "kept"))
        machine.ended("a", tick=0)
        self.assertEqual((machine.kept("d"), machine.knock("d", tick=0)), (0, "handed"))

    def test_one_that_is_on_still_and_whose_wish_is_off(self):
        machine = machine_of(door("d", "a"), Unit("a"))
        bring_up(machine, "d", "a")
        machine.turn_off("a", tick=1)
        self.assertEqual(machine.knock("d", tick=1), "handed")
        self.assertEqual((machine.state("a"), machine.wish("a")), ("on", "on"))

    def test_one_that_is_on_but_does_not_stand(self):
        machine = machine_of(door("d", "b"), Unit("a"), Unit("b", needs=("a",)))
        bring_up(machine, "b", "d")
        machine.turn_off("a", tick=1)
        machine.died("a", tick=1)
        self.assertEqual(machine.knock("d", tick=1), "kept")
        self.assertEqual((machine.state("b"), machine.wish("b"), machine.kept("d")), ("on", "on", 1))
        settle(machine, tick=2)
        self.assertEqual((machine.state("b"), machine.kept("d")), ("on", 0))

    def test_one_that_is_on_while_its_wish_is_back(self):
        machine = machine_of(door("d", "b"), Unit("a", rule=Rule()), Unit("b", needs=("a",)))
        bring_up(machine, "b", "d")
        machine.died("a", tick=1)
        self.assertEqual((machine.state("b"), machine.wish("b")), ("on", "back"))
        self.assertEqual(machine.knock("d", tick=1), "kept")

    def test_a_goal_and_a_door_are_opened_too(self):
        machine = machine_of(door("d", "g"), goal("g"), door("e", "d"))
        bring_up(machine, "d", "e")
        self.assertEqual(machine.knock("d", tick=0), "kept")
        machine.begin("g", tick=0)
        self.assertEqual(machine.kept("d"), 0)
        self.assertEqual(machine.knock("e", tick=0), "handed")

    def test_a_door_whose_own_wish_is_off_still_takes_knocks(self):
        machine = machine_of(door("d", "a"), Unit("a"))
        bring_up(machine, "d")
        machine.turn_off("d", tick=0)
        self.assertEqual((machine.state("d"), machine.knock("d", tick=0)), ("on", "kept"))

    def test_a_door_that_goes_off_by_its_own_knock(self):
        machine = machine_of(door("d", "a"), Unit("a", bars=("d",)))
        bring_up(machine, "d")
        self.assertEqual(machine.knock("d", tick=0), "kept")
        self.assertEqual((machine.wish("d"), machine.kept("d"), machine.ready()), ("off", 1, [("stop", "d")]))
        machine.begin("d", tick=0)
        self.assertEqual(machine.kept("d"), 0)


class HandedAndLost(MachineCase):
    def test_each_door_by_itself(self):
        machine = machine_of(door("d", "a"), door("e", "a"), door("f", "b"), Unit("a"), Unit("b"), room=2)
        bring_up(machine, "d", "e", "f")
        for name in "deef":
            machine.knock(name, tick=0)
        self.assertEqual([machine.kept(name) for name in "def"], [1, 2, 1])
        self.assert_refused(Full, machine, lambda m: m.knock("e", tick=0))
        machine.begin("a", tick=0)
        machine.ended("a", tick=0)
        self.assertEqual([machine.kept(name) for name in "def"], [0, 0, 1])

    def test_handed_when_a_fallen_one_is_on_again(self):
        machine = machine_of(door("d", "a"), Unit("a", rule=Rule(first=3)))
        bring_up(machine, "d", "a")
        machine.died("a", tick=1)
        machine.knock("d", tick=1)
        machine.wake(tick=4)
        self.assertEqual(machine.kept("d"), 1)
        machine.begin("a", tick=4)
        machine.ended("a", tick=4)
        self.assertEqual(machine.kept("d"), 0)

    def test_handed_where_a_wish_turns_back_to_on(self):
        machine = machine_of(door("d", "a"), Unit("a", needs=("b",)), Unit("b", rule=Rule()))
        bring_up(machine, "d", "a")
        machine.turn_off("a", tick=1)
        machine.begin("a", tick=1)
        machine.knock("d", tick=1)
        self.assertEqual((machine.state("a"), machine.kept("d")), ("stopping", 1))
        machine.turn_off("a", tick=1)
        settle(machine, tick=1)
        self.assertEqual((machine.state("a"), machine.kept("d")), ("off", 1))
        bring_up(machine, "a", tick=2)
        self.assertEqual(machine.kept("d"), 0)

    def test_not_handed_while_the_wish_is_another(self):
        machine = machine_of(door("d", "a"), Unit("a"))
        bring_up(machine, "d")
        machine.knock("d", tick=0)
        machine.begin("a", tick=0)
        machine.turn_off("a", tick=0)
        machine.ended("a", tick=0)
        self.assertEqual((machine.state("a"), machine.wish("a"), machine.kept("d")), ("on", "off", 1))
        machine.turn_on("a", tick=1)
        self.assertEqual(machine.kept("d"), 0)

    def test_lost_when_the_door_comes_off(self):
        machine = machine_of(door("d", "a"), door("e", "a"), Unit("a"))
        bring_up(machine, "d", "e")
        for name in "dde":
            machine.knock(name, tick=0)
        machine.turn_off("d", tick=0)
        self.assertEqual(machine.kept("d"), 2)
        machine.begin("d", tick=0)
        self.assertEqual((machine.kept("d"), machine.kept("e")), (0, 1))
        settle(machine)
        bring_up(machine, "d")
        self.assertEqual((machine.kept("d"), machine.knock("d", tick=0)), (0, "handed"))

    def test_none_but_doors_keep_any(self):
        machine = machine_of(door("d", "a"), Unit("a"), goal("g"))
        bring_up(machine, "d", "g")
        machine.knock("d", tick=0)
        self.assertEqual([machine.kept(name) for name in "adg"], [0, 1, 0])


if __name__ == "__main__":
    unittest.main()
