"""Rows and ends: promises 23 and 24."""

import inspect
import unittest

from tests.machine_cases import MachineCase, bring_up, door, goal, machine_of, settle, snapshot
from unitwants.ends import foretold, told_by
from unitwants.errors import NotReady
from unitwants.machines import Machine
from unitwants.rules import Rule
from unitwants.units import Unit


class Rows(MachineCase):
    def test_put(self):
        machine = machine_of(Unit("a"))
        self.assert_rows(machine, lambda m: m.put(Unit("b"), tick=3), [(3, "put", "b", 0)])
        self.assert_rows(machine, lambda m: m.put(Unit("a"), tick=4), [(4, "put", "a", 0)])

    def test_turned_on_and_off(self):
        machine = machine_of(Unit("c", needs=("b",), bars=("d",)), Unit("b"), Unit("d"), Unit("a", needs=("d",)))
        self.assert_rows(machine, lambda m: m.turn_on("a", tick=1), [(1, "on", "a", 0), (1, "on", "d", 0)])
        self.assert_rows(machine, lambda m: m.turn_on("c", tick=2),
                         [(2, "off", "a", 0), (2, "on", "b", 0), (2, "on", "c", 0), (2, "off", "d", 0)])
        self.assert_rows(machine, lambda m: m.turn_on("c", tick=3), [])
        self.assert_rows(machine, lambda m: m.turn_off("a", tick=3), [])
        self.assert_rows(machine, lambda m: m.turn_off("b", tick=4), [(4, "off", "b", 0), (4, "off", "c", 0)])

    def test_a_refused_deed_leaves_none(self):
        machine = machine_of(Unit("a"))
        self.assert_refused(NotReady, machine, lambda m: m.begin("a", tick=1))
        self.assertEqual(machine.rows(), [])

    def test_begun_and_ended(self):
        machine = machine_of(Unit("a"), goal("g"))
        machine.turn_on("a", tick=0)
        machine.turn_on("g", tick=0)
        self.assert_rows(machine, lambda m: m.begin("a", tick=1), [(1, "starting", "a", 0)])
        self.assert_rows(machine, lambda m: m.ended("a", tick=2), [(2, "up", "a", 0)])
        self.assert_rows(machine, lambda m: m.begin("g", tick=3), [(3, "up", "g", 0)])
        machine.turn_off("a", tick=3)
        machine.turn_off("g", tick=3)
        self.assert_rows(machine, lambda m: m.begin("a", tick=4), [(4, "stopping", "a", 0)])
        self.assert_rows(machine, lambda m: m.ended("a", tick=5), [(5, "down", "a", 0)])
        self.assert_rows(machine, lambda m: m.begin("g", tick=6), [(6, "down", "g", 0)])

    def test_ended_badly_and_dead_without_a_fall(self):
        machine = machine_of(Unit("a", rule=Rule()))
        machine.turn_on("a", tick=0)
        machine.begin("a", tick=0)
        machine.turn_off("a", tick=0)
        self.assert_rows(machine, lambda m: m.ended("a", tick=1, good=False), [(1, "down", "a", 0)])
        bring_up(machine, "a", tick=1)
        machine.turn_off("a", tick=1)
        self.assert_rows(machine, lambda m: m.died("a", tick=2), [(2, "down", "a", 0)])

    def test_a_fall_that_waits(self):
        machine = machine_of(Unit("b", rule=Rule(first=7, times=3)), Unit("a", needs=("b",)), Unit("c", needs=("a",)),
                             Unit("d", needs=("a",)))
        machine.turn_on("c", tick=1)
        machine.begin("b", tick=1)
        self.assert_rows(machine, lambda m: m.ended("b", tick=2, good=False),
                         [(2, "down", "b", 0), (2, "fell", "b", 7), (2, "back", "a", 0), (2, "later", "b", 9),
                          (2, "back", "c", 0)])
        machine.turn_on("c", tick=3)
        settle(machine, tick=3)
        self.assert_rows(machine, lambda m: m.died("b", tick=4),
                         [(4, "down", "b", 0), (4, "fell", "b", 21), (4, "back", "a", 0), (4, "later", "b", 25),
                          (4, "back", "c", 0)])

    def test_a_fall_that_is_given_up(self):
        for rule in (None, Rule(burst=0)):
            machine = machine_of(Unit("b", rule=rule), Unit("a", needs=("b",)), Unit("c", needs=("a",)))
            bring_up(machine, "a")
            self.assert_rows(machine, lambda m: m.died("b", tick=4),
                             [(4, "down", "b", 0), (4, "fell", "b", 0), (4, "off", "a", 0), (4, "off", "b", 0)])

    def test_one_that_was_later_comes_back(self):
        machine = machine_of(Unit("a", rule=Rule(first=5)), Unit("b", needs=("a",), rule=Rule(first=50)))
        bring_up(machine, "b")
        machine.died("b", tick=1)
        self.assert_rows(machine, lambda m: m.died("a", tick=2),
                         [(2, "down", "a", 0), (2, "fell", "a", 5), (2, "later", "a", 7), (2, "back", "b", 0)])

    def test_knocks(self):
        machine = machine_of(door("d", "b"), Unit("b", needs=("c",)), Unit("c", wants=("a",)), Unit("a"),
                             door("e", "x"))
        bring_up(machine, "d", "e")
        self.assert_rows(machine, lambda m: m.knock("d", tick=1),
                         [(1, "on", "a", 0), (1, "on", "b", 0), (1, "on", "c", 0), (1, "kept", "d", 1)])
        self.assert_rows(machine, lambda m: m.knock("d", tick=2), [(2, "kept", "d", 1)])
        self.assert_rows(machine, lambda m: m.knock("e", tick=2), [(2, "missed", "e", 1)])
        settle(machine, tick=3)
        self.assertEqual(machine.rows()[-2:], [(3, "up", "b", 0), (3, "handed", "d", 2)])
        self.assert_rows(machine, lambda m: m.knock("d", tick=4), [(4, "kept", "d", 1), (4, "handed", "d", 1)])
        machine.turn_off("b", tick=4)
        self.assert_rows(machine, lambda m: m.knock("d", tick=5),
                         [(5, "on", "b", 0), (5, "kept", "d", 1), (5, "handed", "d", 1)])

    def test_a_missed_knock_whose_plan_was_refused(self):
        machine = machine_of(door("d", "b"), Unit("b", needs=("x",)))
        bring_up(machine, "d")
        self.assert_rows(machine, lambda m: m.knock("d", tick=1), [(1, "missed", "d", 1)])

    def test_handed_door_by_door(self):
        machine = machine_of(door("z", "a"), door("d", "a"), door("f", "b"), Unit("a"), Unit("b"))
        bring_up(machine, "d", "f", "z")
        for name in ("z", "d", "z", "f", "z"):
            machine.knock(name, tick=0)
        machine.begin("a", tick=0)
        self.assert_rows(machine, lambda m: m.ended("a", tick=1),
                         [(1, "up", "a", 0), (1, "handed", "d", 1), (1, "handed", "z", 3)])

    def test_handed_behind_the_wishes(self):
        machine = machine_of(door("d", "b"), Unit("b"), Unit("c", needs=("b",)))
        bring_up(machine, "d")
        machine.knock("d", tick=0)
        machine.begin("b", tick=0)
        machine.turn_off("b", tick=0)
        machine.ended("b", tick=0)
        self.assert_rows(machine, lambda m: m.turn_on("c", tick=1),
                         [(1, "on", "b", 0), (1, "on", "c", 0), (1, "handed", "d", 1)])

    def test_lost(self):
        machine = machine_of(door("d", "b"), Unit("b"))
        bring_up(machine, "d")
        machine.knock("d", tick=0)
        machine.knock("d", tick=0)
        machine.turn_off("d", tick=1)
        self.assert_rows(machine, lambda m: m.begin("d", tick=2), [(2, "down", "d", 0), (2, "lost", "d", 2)])
        bring_up(machine, "d", tick=3)
        machine.turn_off("d", tick=3)
        self.assert_rows(machine, lambda m: m.begin("d", tick=4), [(4, "down", "d", 0)])

    def test_woken(self):
        machine = machine_of(Unit("b", rule=Rule(first=2)), Unit("a", rule=Rule(first=1)), Unit("c", needs=("a", "b")),
                             Unit("d", needs=("a",)))
        bring_up(machine, "c", "d")
        machine.died("a", tick=1)
        machine.died("b", tick=1)
        self.assert_rows(machine, lambda m: m.wake(tick=1), [])
        self.assert_rows(machine, lambda m: m.wake(tick=5),
                         [(5, "woken", "a", 0), (5, "on", "a", 0), (5, "on", "d", 0),
                          (5, "woken", "b", 0), (5, "on", "b", 0), (5, "on", "c", 0)])

    def test_stuck(self):
        machine = machine_of(Unit("a", rule=Rule(first=4), after=("b",)), Unit("b", after=("a",)),
                             Unit("c", needs=("a",)), Unit("e", rule=Rule(first=9)))
        bring_up(machine, "c", "e")
        machine.died("a", tick=1)
        machine.died("e", tick=1)
        machine.turn_on("b", tick=1)
        self.assert_rows(machine, lambda m: m.wake(tick=20),
                         [(20, "stuck", "a", 0), (20, "off", "a", 0), (20, "off", "c", 0),
                          (20, "woken", "e", 0), (20, "on", "e", 0)])

    def test_handed_behind_all_that_a_waking_leaves(self):
        # b is on, though nobody wishes for it until a, which wants it, is woken.
        machine = machine_of(door("d", "b"), Unit("b"), Unit("a", wants=("b",), rule=Rule(first=3)),
                             Unit("z", rule=Rule(first=5)))
        bring_up(machine, "d", "z")
        machine.turn_on("a", tick=0)
        machine.begin("a", tick=0)
        machine.ended("a", tick=0)
        machine.begin("b", tick=0)
        machine.knock("d", tick=0)
        machine.turn_off("b", tick=0)
        machine.ended("b", tick=0)
        machine.died("a", tick=1)
        machine.died("z", tick=1)
        self.assertEqual((machine.state("b"), machine.wish("b"), machine.kept("d")), ("on", "off", 1))
        self.assert_rows(machine, lambda m: m.wake(tick=9),
                         [(9, "woken", "a", 0), (9, "on", "a", 0), (9, "on", "b", 0), (9, "woken", "z", 0),
                          (9, "on", "z", 0), (9, "handed", "d", 1)])


class ToldByRows(unittest.TestCase):
    def test_no_rows(self):
        self.assertEqual(told_by([]), [])

    def test_each_word(self):
        for word, told in (("starting", ("starting", "off", 0)), ("up", ("on", "off", 0)),
                           ("stopping", ("stopping", "off", 0)), ("down", ("off", "off", 0)), ("on", ("off", "on", 0)),
                           ("off", ("off", "off", 0)), ("later", ("off", "later", 0)), ("back", ("off", "back", 0)),
                           ("put", ("off", "off", 0)), ("fell", ("off", "off", 0)), ("woken", ("off", "off", 0)),
                           ("stuck", ("off", "off", 0)), ("missed", ("off", "off", 0)), ("kept", ("off", "off", 1))):
            self.assertEqual(told_by([(3, word, "a", 1 if word in ("missed", "kept") else 0)]), [("a", *told)])

    def test_the_last_row_of_its_sort_tells(self):
        rows = [(0, "on", "b", 0), (0, "on", "a", 0), (1, "starting", "b", 0), (2, "up", "b", 0), (3, "back", "a", 0),
                (3, "later", "b", 9), (4, "off", "a", 0), (5, "woken", "b", 0), (5, "on", "b", 0)]
        self.assertEqual(told_by(rows), [("a", "off", "off", 0), ("b", "on", "on", 0)])
        self.assertEqual(told_by(rows[:6]), [("a", "off", "back", 0), ("b", "on", "later", 0)])
        self.assertEqual(told_by(rows[:3]), [("a", "off", "on", 0), ("b", "starting", "on", 0)])

    def test_knocks(self):
        rows = [(0, "on", "d", 0), (0, "up", "d", 0), (1, "kept", "d", 1), (1, "kept", "d", 1), (1, "kept", "e", 1),
                (1, "missed", "d", 1), (2, "handed", "d", 2), (3, "kept", "d", 1), (4, "kept", "d", 1),
                (4, "kept", "d", 1), (5, "down", "d", 0), (5, "lost", "d", 3)]
        kept = [dict((row[0], row[3]) for row in told_by(rows[:many])).get("d") for many in range(len(rows) + 1)]
        self.assertEqual(kept, [None, 0, 0, 1, 2, 2, 2, 0, 1, 2, 3, 3, 0])
        self.assertEqual(told_by(rows), [("d", "off", "on", 0), ("e", "off", "off", 1)])

    def test_the_list_handed_in_and_the_one_told(self):
        rows = [(0, "on", "a", 0)]
        told = told_by(rows=rows)
        self.assertIs(type(told), list)
        told.clear()
        self.assertEqual((rows, told_by(rows)), ([(0, "on", "a", 0)], [("a", "off", "on", 0)]))
        self.assertEqual(list(inspect.signature(told_by).parameters), ["rows"])

    def test_of_a_machine(self):
        machine = machine_of(door("d", "b"), Unit("b", rule=Rule()), Unit("c", needs=("b",)), Unit("e"))
        bring_up(machine, "d", "c")
        machine.died("b", tick=1)
        machine.knock("d", tick=1)
        self.assertEqual(told_by(machine.rows()),
                         [("b", "off", "later", 0), ("c", "on", "back", 0), ("d", "on", "on", 1)])


class Foretold(MachineCase):
    def assert_foretold(self, machine, bad, end):
        before = snapshot(machine)
        told = foretold(machine, bad=bad)
        self.assertIs(type(told), list)
        self.assertEqual(told, sorted((name, state, wish) for name, (state, wish) in end.items()))
        self.assertEqual(foretold(machine, bad=bad), told)
        self.assertEqual(snapshot(machine), before)
        told.clear()
        self.assertEqual(len(foretold(machine, bad=bad)), len(end))

    def test_nothing_to_do(self):
        self.assertEqual(foretold(Machine()), [])
        machine = machine_of(Unit("b"), Unit("a"))
        self.assert_foretold(machine, (), {"a": ("off", "off"), "b": ("off", "off")})
        bring_up(machine, "a")
        self.assert_foretold(machine, ("a", "b"), {"a": ("on", "on"), "b": ("off", "off")})

    def test_without_bad_starts(self):
        machine = machine_of(Unit("c", needs=("b",)), Unit("b"), Unit("a", after=("c",)), goal("g", needs=("c",)))
        machine.turn_on("g", tick=3)
        machine.turn_on("a", tick=3)
        end = {name: ("on", "on") for name in "abcg"}
        self.assert_foretold(machine, (), end)
        self.assert_foretold(machine, ("x", "zz"), end)
        machine.turn_off("b", tick=3)
        self.assert_foretold(machine, (), {**{name: ("off", "off") for name in "bcg"}, "a": ("on", "on")})

    def test_with_bad_starts(self):
        units = [Unit("a", rule=Rule()), Unit("b", needs=("a",)), Unit("c"), Unit("d", needs=("c",)), Unit("e")]
        machine = machine_of(*units)
        for name in "bde":
            machine.turn_on(name, tick=5)
        on = {name: ("on", "on") for name in "abcde"}
        self.assert_foretold(machine, (), on)
        self.assert_foretold(machine, ("a",), {**on, "a": ("off", "later"), "b": ("off", "back")})
        self.assert_foretold(machine, ("c",), {**on, "c": ("off", "off"), "d": ("off", "off")})
        self.assert_foretold(machine, ("b", "x"), {**on, "b": ("off", "off")})
        self.assert_foretold(machine, ("a", "c", "e"), {"a": ("off", "later"), "b": ("off", "back"),
                                                        "c": ("off", "off"), "d": ("off", "off"), "e": ("off", "off")})

    def test_a_bad_one_that_is_on_already(self):
        machine = machine_of(Unit("a"), Unit("b", needs=("a",)))
        bring_up(machine, "a")
        machine.turn_on("b", tick=1)
        self.assert_foretold(machine, ("a",), {"a": ("on", "on"), "b": ("on", "on")})

    def test_goals_and_doors_have_no_bad_starts(self):
        machine = machine_of(goal("g"), door("d", "x"))
        machine.turn_on("g", tick=0)
        machine.turn_on("d", tick=0)
        self.assert_foretold(machine, ("d", "g"), {"d": ("on", "on"), "g": ("on", "on")})

    def test_what_was_begun_is_ended(self):
        machine = machine_of(Unit("a", rule=Rule()), Unit("b"))
        bring_up(machine, "b")
        machine.turn_on("a", tick=1)
        machine.begin("a", tick=1)
        machine.turn_off("b", tick=1)
        machine.begin("b", tick=1)
        self.assert_foretold(machine, (), {"a": ("on", "on"), "b": ("off", "off")})
        self.assert_foretold(machine, ("a", "b"), {"a": ("off", "later"), "b": ("off", "off")})

    def test_a_bad_one_that_stops_first(self):
        # b is shaken, so it is stopped and started again, badly then.
        machine = machine_of(Unit("a"), Unit("b", needs=("a",), rule=Rule()))
        bring_up(machine, "b")
        machine.turn_off("a", tick=1)
        machine.died("a", tick=1)
        machine.turn_on("b", tick=1)
        self.assert_foretold(machine, ("b",), {"a": ("on", "on"), "b": ("off", "later")})
        self.assert_foretold(machine, (), {"a": ("on", "on"), "b": ("on", "on")})

    def test_kept_falls_count(self):
        machine = machine_of(Unit("a", rule=Rule(first=1, burst=1, span=100)))
        bring_up(machine, "a", tick=1)
        machine.died("a", tick=2)
        machine.wake(tick=3)
        self.assert_foretold(machine, ("a",), {"a": ("off", "off")})
        machine = machine_of(Unit("a", rule=Rule(first=1, burst=1, span=100)))
        bring_up(machine, "a", tick=1)
        machine.died("a", tick=2)
        machine.wake(tick=500)
        self.assert_foretold(machine, ("a",), {"a": ("off", "later")})

    def test_knocks_and_room_stay(self):
        machine = machine_of(door("d", "a"), Unit("a"), room=1)
        bring_up(machine, "d")
        machine.knock("d", tick=0)
        self.assert_foretold(machine, (), {"a": ("on", "on"), "d": ("on", "on")})
        self.assertEqual(machine.kept("d"), 1)

    def test_the_machine_goes_on_as_it_was(self):
        machine = machine_of(Unit("a", rule=Rule()), Unit("b", needs=("a",)))
        bring_up(machine, "b")
        machine.died("a", tick=1)
        foretold(machine, bad=("a",))
        machine.wake(tick=2)
        foretold(machine, bad=("a", "b"))
        settle(machine, tick=2)
        self.assertEqual(foretold(machine), [("a", "on", "on"), ("b", "on", "on")])

    def test_by_name(self):
        self.assertEqual(foretold(machine=Machine(), bad=("a",)), [])
        parameters = inspect.signature(foretold).parameters
        self.assertEqual(list(parameters), ["machine", "bad"])
        self.assertEqual(parameters["bad"].default, ())
        self.assertIs(parameters["bad"].kind, inspect.Parameter.KEYWORD_ONLY)


if __name__ == "__main__":
    unittest.main()
