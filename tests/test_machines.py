"""Machines: promises 17, 18 and 19."""

import inspect
import itertools
import unittest
from random import Random

from tests.machine_cases import (
    MachineCase, all_deeds, bring_up, door, goal, machine_of, settle, snapshot, states, wishes)
from tests.model import behind_told, plan_told
from tests.plan_cases import PlanCase
from tests.things import NO_NAMES, SIXTEEN, fields, four, shelf_fields, some_shelves
from unitwants.errors import (
    Clash, Full, Knot, Lack, NoDoor, NoShelf, NotBegun, NotOn, NotReady, NoTick, NoUnit, Running)
from unitwants.machines import ROOM, Machine
from unitwants.plans import Plan
from unitwants.rules import Rule
from unitwants.shelves import Shelf
from unitwants.stands import Stand
from unitwants.units import Unit


class Making(MachineCase):
    def test_of_no_units(self):
        for machine in (Machine(), Machine([]), Machine(()), Machine(units=[])):
            self.assertEqual(snapshot(machine), ({}, [], [], ((), (), (), ()), 0, []))

    def test_of_units(self):
        units = [Unit("b", needs=("a",)), Unit("a"), door("c", "a")]
        for machine in (Machine(units), Machine(tuple(units)), Machine(units=units, room=3)):
            self.assertEqual(shelf_fields(machine.shelf()), shelf_fields(Shelf(units)))
            self.assertIs(type(machine.shelf()), Shelf)
            self.assertEqual(states(machine), {"a": "off", "b": "off", "c": "off"})
            self.assertEqual(wishes(machine), {"a": "off", "b": "off", "c": "off"})
            for name in "abc":
                self.assertEqual((machine.due(name), machine.falls(name), machine.kept(name)), (None, [], 0))
            self.assertEqual((machine.ready(), machine.rows(), machine.last_tick()), ([], [], 0))
            self.assertEqual(four(machine.stand()), ((), (), (), ()))

    def test_no_shelf(self):
        for units, name in (([Unit("a"), Unit("b"), Unit("a", needs=("b",))], "a"),
                            ([Unit(name) for name in (*SIXTEEN, "seventh")], "seventh")):
            for handed in (units, tuple(units)):
                with self.assertRaises(NoShelf) as caught:
                    Machine(handed)
                self.assertEqual(caught.exception.name, name)
        self.assertEqual(len(Machine([Unit(name) for name in SIXTEEN]).shelf()), 16)

    def test_the_list_handed_in(self):
        units = [Unit("a")]
        machine = Machine(units)
        units.append(Unit("b"))
        self.assertEqual(machine.shelf().names(), ["a"])
        machine.put(Unit("c"), tick=0)
        self.assertEqual(units, [Unit("a"), Unit("b")])

    def test_room(self):
        self.assertEqual(ROOM, 9)
        parameters = inspect.signature(Machine).parameters
        self.assertEqual(list(parameters), ["units", "room"])
        self.assertEqual((parameters["units"].default, parameters["room"].default), ((), 9))
        self.assertIs(parameters["room"].kind, inspect.Parameter.KEYWORD_ONLY)
        with self.assertRaises(TypeError):
            Machine([], 3)

    def test_two_machines_share_nothing(self):
        units = [Unit("a", rule=Rule()), door("b", "a")]
        one, other = Machine(units), Machine(units)
        before = snapshot(other)
        bring_up(one, "a", "b")
        one.died("a", tick=1)
        one.knock("b", tick=1)
        one.put(Unit("c"), tick=2)
        self.assertEqual(snapshot(other), before)
        self.assertEqual(snapshot(Machine(units)), before)


class Arguments(MachineCase):
    TICK = {"tick": inspect.Parameter.empty}
    FORMS = {
        "turn_on": (["name"], TICK), "turn_off": (["name"], TICK), "begin": (["name"], TICK),
        "ended": (["name"], {**TICK, "good": True}), "died": (["name"], TICK), "put": (["unit"], TICK),
        "wake": ([], TICK), "knock": (["name"], TICK),
        "state": (["name"], {}), "wish": (["name"], {}), "due": (["name"], {}), "falls": (["name"], {}),
        "kept": (["name"], {}), "ready": ([], {}), "rows": ([], {}), "stand": ([], {}), "shelf": ([], {}),
        "last_tick": ([], {})}

    def test_names_and_places(self):
        machine = Machine()
        for word, (places, named) in self.FORMS.items():
            parameters = inspect.signature(getattr(machine, word)).parameters
            self.assertEqual(list(parameters), [*places, *named], word)
            for name in named:
                self.assertIs(parameters[name].kind, inspect.Parameter.KEYWORD_ONLY)
                self.assertIs(parameters[name].default, named[name])

    def test_by_name(self):
        machine = machine_of(Unit("a"), door("d", "a"))
        self.assertEqual(machine.turn_on(tick=1, name="a").name, "a")
        self.assertIsNone(machine.begin(tick=1, name="a"))
        self.assertIsNone(machine.ended(good=True, tick=1, name="a"))
        machine.turn_on("d", tick=1)
        machine.begin("d", tick=1)
        self.assertEqual(machine.knock(tick=2, name="d"), "handed")
        self.assertEqual(machine.turn_off(tick=2, name="a").way, "off")
        self.assertIsNone(machine.died(tick=2, name="a"))
        self.assertIsNone(machine.put(tick=2, unit=Unit("b")))
        self.assertEqual((machine.state(name="a"), machine.wish(name="a"), machine.due(name="a"),
                          machine.falls(name="a"), machine.kept(name="a")), ("off", "off", None, [], 0))


class NoUnits(MachineCase):
    def test_any_thing_as_a_name(self):
        machine = machine_of(Unit("a"), goal("b"))
        bring_up(machine, "a", tick=5)
        for name in NO_NAMES:
            deeds = {word: deed for word, deed in all_deeds(name, 5).items() if word not in ("wake", "put")}
            questions = {word: (lambda m, word=word: getattr(m, word)(name))
                         for word in ("state", "wish", "due", "falls", "kept")}
            for word, ask in {**deeds, **questions}.items():
                refusal = self.assert_refused(NoUnit, machine, ask)
                self.assertEqual(refusal.name, name)
                self.assertIs(type(refusal.name), type(name))


class Turning(MachineCase, PlanCase):
    def test_on_and_off(self):
        machine = machine_of(Unit("a", needs=("b",), wants=("x", "c"), bars=("d",)), Unit("b"), Unit("c"), Unit("d"),
                             Unit("e", needs=("b",)))
        plan = machine.turn_on("d", tick=1)
        self.assertIs(type(plan), Plan)
        self.assertEqual((plan.name, plan.way, plan.dropped), ("d", "on", ()))
        self.assertEqual(sorted(row[:2] for row in plan.demands), [("a", "off"), ("d", "on")])
        self.assertEqual(wishes(machine), {"a": "off", "b": "off", "c": "off", "d": "on", "e": "off"})
        plan = machine.turn_on("a", tick=1)
        self.assertEqual((plan.name, plan.way, plan.dropped), ("a", "on", (("a", "x", "lack"),)))
        self.assertEqual(wishes(machine), {"a": "on", "b": "on", "c": "on", "d": "off", "e": "off"})
        machine.turn_on("e", tick=2)
        plan = machine.turn_off("b", tick=3)
        self.assertEqual((plan.name, plan.way, plan.dropped, len(plan)), ("b", "off", (), 3))
        self.assertEqual(wishes(machine), {"a": "off", "b": "off", "c": "on", "d": "off", "e": "off"})
        self.assertEqual(states(machine), {name: "off" for name in "abcde"})

    def test_by_the_plan_for_its_stand(self):
        # b is wished, so that the want c, which bars it, can't be taken.
        machine = machine_of(Unit("a", wants=("c",)), Unit("b"), Unit("c", bars=("b",)))
        machine.turn_on("b", tick=0)
        self.assertEqual(machine.turn_on("a", tick=0).dropped, (("a", "c", "takes"),))
        # Two that are behind each other can only both be wished where one of them is up.
        machine = machine_of(Unit("a", after=("b",)), Unit("b", after=("a",)))
        machine.turn_on("a", tick=0)
        self.assert_refused(Knot, machine, lambda m: m.turn_on("b", tick=0))
        machine.begin("a", tick=0)
        machine.turn_on("b", tick=0)
        self.assertEqual(wishes(machine), {"a": "on", "b": "on"})

    def test_refusals(self):
        machine = machine_of(Unit("a", needs=("x",)), Unit("b", needs=("c",), bars=("c",)), Unit("c"),
                             Unit("d", needs=("e",)), Unit("e", after=("d",)))
        self.assertEqual(self.assert_refused(Lack, machine, lambda m: m.turn_on("a", tick=4)).missing, "x")
        self.assertEqual(self.assert_refused(Clash, machine, lambda m: m.turn_on("b", tick=4)).name, "b")
        ring = self.assert_refused(Knot, machine, lambda m: m.turn_on("d", tick=4)).ring
        self.assertEqual(sorted(ring), ["d", "e"])
        for name in "abcde":
            self.assertEqual(machine.turn_off(name, tick=0).name, name)

    def test_asked_for_twice(self):
        machine = machine_of(Unit("a", needs=("b",)), Unit("b"))
        one, other = machine.turn_on("a", tick=0), machine.turn_on("a", tick=0)
        self.assertEqual(one.demands, other.demands)
        self.assertEqual(wishes(machine), {"a": "on", "b": "on"})

    def test_of_many(self):
        source = Random(17)
        for shelf in some_shelves(17, 60, most=1):
            machine = Machine([shelf.unit(name) for name in shelf.names()])
            for turn in range(8):
                name = source.choice(shelf.names())
                stand = machine.stand()
                word, told = plan_told(shelf, stand, name)
                if word == "plan":
                    plan = machine.turn_on(name, tick=turn)
                    self.assert_plan_on(shelf, stand, name, plan)
                    self.assertEqual(four(machine.stand()), behind_told(stand, told[0]))
                else:
                    kind = {"lack": Lack, "clash": Clash, "knot": Knot}[word]
                    self.assert_refused(kind, machine, lambda m: m.turn_on(name, tick=turn))
                if source.randint(0, 2) == 0:
                    settle(machine, tick=turn)
                    self.assertEqual(machine.stand().up, machine.stand().wished)


class Standing(MachineCase):
    def up(self, machine):
        return "".join(machine.stand().up)

    def test_along_needs(self):
        machine = machine_of(Unit("a"), Unit("b", needs=("a",)), goal("c", needs=("b",)))
        machine.turn_on("c", tick=0)
        self.assertEqual(self.up(machine), "")
        machine.begin("a", tick=0)
        self.assertEqual((self.up(machine), machine.state("a")), ("a", "starting"))
        machine.ended("a", tick=0)
        machine.begin("b", tick=0)
        self.assertEqual(self.up(machine), "ab")
        machine.ended("b", tick=0)
        machine.begin("c", tick=0)
        self.assertEqual(self.up(machine), "abc")
        self.assertEqual(four(machine.stand()), (("a", "b", "c"), ("a", "b", "c"), (), ()))
        machine.died("a", tick=0)
        self.assertEqual(self.up(machine), "")
        self.assert_states(machine, a="off", b="on", c="on")

    def test_those_that_stop_stand_no_more(self):
        machine = machine_of(Unit("a"), Unit("b", needs=("a",)))
        bring_up(machine, "b")
        machine.turn_off("b", tick=1)
        self.assertEqual(self.up(machine), "ab")
        machine.begin("b", tick=1)
        self.assertEqual((self.up(machine), machine.state("b")), ("a", "stopping"))

    def shaken(self):
        """b and c are on, but a, which they need, died when nobody wished for it, and is wished for again."""
        machine = machine_of(Unit("a"), Unit("b", needs=("a",)), Unit("c", needs=("b",)), Unit("d"))
        bring_up(machine, "c", "d")
        machine.turn_off("a", tick=1)
        machine.died("a", tick=1)
        machine.turn_on("c", tick=1)
        return machine

    def test_shaken_ones_stop_first(self):
        machine = self.shaken()
        self.assertEqual(wishes(machine), {"a": "on", "b": "on", "c": "on", "d": "on"})
        self.assertEqual(states(machine), {"a": "off", "b": "on", "c": "on", "d": "on"})
        self.assertEqual(self.up(machine), "d")
        self.assertEqual(machine.ready(), [("stop", "c")])
        machine.begin("c", tick=2)
        machine.ended("c", tick=2)
        self.assertEqual(machine.ready(), [("stop", "b")])
        machine.begin("b", tick=2)
        self.assertEqual(machine.ready(), [])
        machine.ended("b", tick=2)
        self.assertEqual(machine.ready(), [("start", "a")])
        settle(machine, tick=3)
        self.assertEqual(set(states(machine).values()), {"on"})

    def test_shaken_ones_are_open(self):
        machine = self.shaken()
        machine.put(Unit("e", after=("b",)), tick=2)
        machine.turn_on("e", tick=2)
        self.assertEqual(machine.ready(), [("stop", "c")])

    def test_a_need_that_is_starting_does_not_do(self):
        machine = self.shaken()
        settle(machine, tick=2)
        machine.turn_off("a", tick=3)
        machine.died("a", tick=3)
        for name in ("c", "b"):
            machine.begin(name, tick=3)
            machine.ended(name, tick=3)
        machine.turn_on("c", tick=3)
        machine.begin("a", tick=3)
        self.assertEqual((self.up(machine), machine.ready()), ("ad", []))

    def test_a_ring_of_needs(self):
        # b is put anew so that it needs a, which is back and on and needs b: neither of them stands.
        machine = machine_of(Unit("a", needs=("b",)), Unit("b", rule=Rule()), Unit("c"))
        bring_up(machine, "a", "c")
        machine.died("b", tick=1)
        self.assertEqual(wishes(machine), {"a": "back", "b": "later", "c": "on"})
        machine.turn_off("b", tick=1)
        machine.put(Unit("b", needs=("a",)), tick=1)
        self.assertEqual((states(machine), self.up(machine)), ({"a": "on", "b": "off", "c": "on"}, "c"))
        self.assertEqual(machine.ready(), [("stop", "a")])

    def test_along_sixteen_with_many_needs(self):
        # Asked anew at each place, who stands would take longer than anyone waits.
        units = [Unit(name, needs=SIXTEEN[max(at - 8, 0):at]) for at, name in enumerate(SIXTEEN)]
        machine = Machine(units)
        bring_up(machine, SIXTEEN[-1])
        self.assertEqual(machine.stand().up, tuple(sorted(SIXTEEN)))


class Ticks(MachineCase):
    def test_a_deed_ahead_of_the_last_one(self):
        machine = machine_of(Unit("a"), Unit("b", needs=("x",)), door("d", "a"))
        bring_up(machine, "a", "d", tick=7)
        self.assertEqual(machine.last_tick(), 7)
        for tick in (0, 1, 6):
            for name in ("a", "b", "d", *NO_NAMES):
                for word, deed in all_deeds(name, tick).items():
                    self.assert_refused(NoTick, machine, deed)
            for unit in (Unit("a"), Unit("new")):
                self.assert_refused(NoTick, machine, lambda m: m.put(unit, tick=tick))

    def test_no_tick_ahead_of_no_shelf(self):
        machine = Machine([Unit(name) for name in SIXTEEN])
        machine.wake(tick=3)
        self.assert_refused(NoTick, machine, lambda m: m.put(Unit("seventh"), tick=2))
        self.assert_refused(NoShelf, machine, lambda m: m.put(Unit("seventh"), tick=3))

    def test_on_the_very_same_tick_and_later_ones(self):
        for ticks in ((0, 0, 0), (3, 3, 10 ** 6), (0, 1, 2)):
            machine = machine_of(Unit("a"))
            for tick in ticks:
                machine.turn_on("a", tick=tick)
                self.assertEqual(machine.last_tick(), tick)

    def test_each_deed_makes_the_last_tick(self):
        machine = machine_of(Unit("a"), door("d", "a"), goal("g"))
        deeds = [lambda tick: machine.turn_on("a", tick=tick), lambda tick: machine.begin("a", tick=tick),
                 lambda tick: machine.ended("a", tick=tick), lambda tick: machine.turn_on("d", tick=tick),
                 lambda tick: machine.begin("d", tick=tick), lambda tick: machine.knock("d", tick=tick),
                 lambda tick: machine.wake(tick=tick), lambda tick: machine.put(Unit("e"), tick=tick),
                 lambda tick: machine.turn_off("a", tick=tick), lambda tick: machine.died("a", tick=tick),
                 lambda tick: machine.turn_on("a", tick=tick), lambda tick: machine.begin("a", tick=tick),
                 lambda tick: machine.ended("a", tick=tick, good=False)]
        for at, deed in enumerate(deeds):
            deed(at * 3 + 1)
            self.assertEqual(machine.last_tick(), at * 3 + 1)

    def test_a_deed_that_changes_nothing_is_one_all_the_same(self):
        machine = machine_of(Unit("a"))
        machine.turn_off("a", tick=4)
        self.assertEqual((machine.last_tick(), machine.rows()), (4, []))
        self.assert_refused(NoTick, machine, lambda m: m.wake(tick=3))
        self.assertEqual(machine.wake(tick=5), [])
        self.assertEqual(machine.last_tick(), 5)

    def test_a_refused_deed_makes_it_no_later(self):
        machine = machine_of(Unit("a", needs=("x",)), Unit("b"), door("d", "b"))
        machine.turn_on("b", tick=2)
        for deed in (lambda m: m.turn_on("a", tick=9), lambda m: m.turn_on("c", tick=9),
                     lambda m: m.turn_off("c", tick=9), lambda m: m.begin("a", tick=9), lambda m: m.begin("c", tick=9),
                     lambda m: m.ended("b", tick=9), lambda m: m.died("b", tick=9), lambda m: m.knock("b", tick=9),
                     lambda m: m.knock("d", tick=9), lambda m: m.put(Unit("b"), tick=9)):
            with self.assertRaises((Lack, NoUnit, NotReady, NotBegun, NotOn, NoDoor, Running)):
                deed(machine)
            self.assertEqual(machine.last_tick(), 2)
        machine.turn_off("b", tick=2)


class Falls(MachineCase):
    """How falls are forgotten; test_falls tells the rest."""

    def fallen(self):
        machine = machine_of(Unit("a", rule=Rule(first=5, burst=9)), Unit("b", needs=("a",)))
        bring_up(machine, "b", tick=1)
        machine.died("a", tick=3)
        self.assertEqual((machine.falls("a"), machine.wish("a"), machine.due("a")), ([3], "later", 8))
        return machine

    def test_forgotten_where_a_wish_turns_to_on_from_off(self):
        machine = self.fallen()
        machine.turn_off("a", tick=4)
        self.assertEqual((machine.falls("a"), machine.wish("a"), machine.due("a")), ([3], "off", None))
        machine.turn_on("a", tick=4)
        self.assertEqual((machine.falls("a"), machine.wish("a")), ([], "on"))

    def test_kept_where_it_turns_to_on_from_later(self):
        machine = self.fallen()
        machine.turn_on("a", tick=4)
        self.assertEqual((machine.falls("a"), machine.wish("a"), machine.due("a")), ([3], "on", None))
        machine.turn_on("a", tick=4)
        self.assertEqual(machine.falls("a"), [3])

    def test_kept_where_it_turns_to_on_from_back(self):
        machine = machine_of(Unit("a", rule=Rule()), Unit("b", needs=("a",), rule=Rule(first=50)))
        bring_up(machine, "b", tick=1)
        machine.died("b", tick=2)
        machine.died("a", tick=3)
        self.assertEqual((machine.wish("b"), machine.falls("b")), ("back", [2]))
        machine.turn_on("b", tick=4)
        self.assertEqual((machine.wish("b"), machine.falls("b")), ("on", [2]))

    def test_forgotten_of_one_that_comes_as_a_need_or_a_want(self):
        for word in ("needs", "wants"):
            machine = machine_of(Unit("a", rule=Rule()), Unit("b", **{word: ("a",)}))
            bring_up(machine, "a")
            machine.died("a", tick=3)
            machine.turn_off("a", tick=3)
            machine.turn_on("b", tick=4)
            self.assertEqual((machine.wish("a"), machine.falls("a")), ("on", []))


class Ready(MachineCase):
    def test_sorted(self):
        machine = machine_of(Unit("b"), Unit("a"), Unit("d"), Unit("c"))
        bring_up(machine, "c", "d")
        for name in "cd":
            machine.turn_off(name, tick=1)
        for name in "ab":
            machine.turn_on(name, tick=1)
        self.assertEqual(machine.ready(), [("start", "a"), ("start", "b"), ("stop", "c"), ("stop", "d")])

    def test_start_waits_for_needs(self):
        machine = machine_of(Unit("a", needs=("b", "c")), Unit("b"), goal("c"))
        machine.turn_on("a", tick=0)
        self.assertEqual(machine.ready(), [("start", "b"), ("start", "c")])
        machine.begin("c", tick=0)
        machine.begin("b", tick=0)
        self.assertEqual(machine.ready(), [])
        machine.ended("b", tick=0)
        self.assertEqual(machine.ready(), [("start", "a")])

    def test_start_waits_for_those_behind_which_it_comes(self):
        machine = machine_of(Unit("a", after=("b", "x")), Unit("b"))
        machine.turn_on("a", tick=0)
        self.assertEqual(machine.ready(), [("start", "a")])
        machine.turn_on("b", tick=0)
        self.assertEqual(machine.ready(), [("start", "b")])
        machine.begin("b", tick=0)
        self.assertEqual(machine.ready(), [])
        machine.ended("b", tick=0)
        self.assertEqual(machine.ready(), [("start", "a")])

    def test_start_waits_for_doors_that_open_it(self):
        machine = machine_of(Unit("a"), door("d", "a"), door("e", "a"))
        machine.turn_on("a", tick=0)
        machine.turn_on("d", tick=0)
        self.assertEqual(machine.ready(), [("start", "d")])
        machine.begin("d", tick=0)
        self.assertEqual(machine.ready(), [("start", "a")])

    def test_start_does_not_wait_for_those_with_another_wish(self):
        rule = Rule(first=50)
        machine = machine_of(Unit("a", after=("b", "c", "d")), Unit("b", rule=rule), Unit("c", needs=("b",)), Unit("d"))
        bring_up(machine, "c", "d")
        machine.turn_off("d", tick=1)
        machine.died("b", tick=1)
        self.assertEqual(wishes(machine), {"a": "off", "b": "later", "c": "back", "d": "off"})
        machine.turn_on("a", tick=1)
        self.assertIn(("start", "a"), machine.ready())

    def test_start_waits_for_one_that_is_on_but_shaken(self):
        machine = machine_of(Unit("a"), Unit("b", needs=("a",)), Unit("c", after=("b",)))
        bring_up(machine, "b")
        machine.turn_off("a", tick=1)
        machine.died("a", tick=1)
        machine.turn_on("b", tick=1)
        machine.turn_on("c", tick=1)
        self.assertEqual((machine.state("b"), machine.wish("b")), ("on", "on"))
        self.assertEqual(machine.ready(), [("stop", "b")])

    def test_start_waits_until_all_that_need_it_are_off(self):
        machine = machine_of(Unit("a"), Unit("b", needs=("a",)))
        bring_up(machine, "b")
        machine.turn_off("a", tick=1)
        machine.died("a", tick=1)
        machine.turn_on("a", tick=1)
        self.assertEqual(machine.ready(), [("stop", "b")])
        machine.begin("b", tick=1)
        self.assertEqual((machine.state("b"), machine.ready()), ("stopping", []))
        machine.ended("b", tick=1)
        self.assertEqual(machine.ready(), [("start", "a")])

    def test_start_waits_until_all_that_it_is_barred_with_are_off(self):
        for units in ((Unit("a", bars=("b",)), Unit("b")), (Unit("a"), Unit("b", bars=("a",)))):
            machine = machine_of(*units)
            machine.turn_on("b", tick=0)
            machine.begin("b", tick=0)
            machine.turn_on("a", tick=0)
            self.assertEqual((machine.state("b"), machine.ready()), ("starting", [("stop", "b")]))
            machine.ended("b", tick=0)
            self.assertEqual(machine.ready(), [("stop", "b")])
            machine.begin("b", tick=0)
            self.assertEqual((machine.state("b"), machine.ready()), ("stopping", []))
            machine.ended("b", tick=0)
            self.assertEqual(machine.ready(), [("start", "a")])

    def test_stop_waits_until_all_that_need_it_are_off(self):
        machine = machine_of(Unit("a"), Unit("b", needs=("a",)), goal("c", needs=("b",)))
        bring_up(machine, "c")
        self.assertEqual(machine.ready(), [])
        machine.turn_off("a", tick=1)
        self.assertEqual(machine.ready(), [("stop", "c")])
        machine.begin("c", tick=1)
        self.assertEqual((machine.state("c"), machine.ready()), ("off", [("stop", "b")]))
        machine.begin("b", tick=1)
        self.assertEqual((machine.state("b"), machine.ready()), ("stopping", []))
        machine.ended("b", tick=1)
        self.assertEqual(machine.ready(), [("stop", "a")])

    def test_stop_does_not_wait_for_those_that_come_behind_it_or_are_opened(self):
        machine = machine_of(Unit("a"), Unit("b", after=("a",)), door("d", "b"))
        bring_up(machine, "a", "b", "d")
        machine.turn_off("a", tick=1)
        machine.turn_off("d", tick=1)
        self.assertEqual(machine.ready(), [("stop", "a"), ("stop", "d")])

    def test_a_starting_one_may_be_stopped(self):
        machine = machine_of(Unit("a"))
        machine.turn_on("a", tick=0)
        machine.begin("a", tick=0)
        self.assertEqual(machine.ready(), [])
        machine.turn_off("a", tick=0)
        self.assertEqual(machine.ready(), [("stop", "a")])
        machine.begin("a", tick=0)
        self.assert_states(machine, a="stopping")

    def test_of_wishes_later_and_back(self):
        machine = machine_of(Unit("a", rule=Rule()), Unit("b", needs=("a",)))
        bring_up(machine, "b")
        machine.died("a", tick=1)
        self.assertEqual((wishes(machine), machine.ready()), ({"a": "later", "b": "back"}, [("stop", "b")]))
        settle(machine, tick=1)
        self.assertEqual((states(machine), machine.ready()), ({"a": "off", "b": "off"}, []))


class Beginning(MachineCase):
    def test_a_work(self):
        machine = machine_of(Unit("a"))
        machine.turn_on("a", tick=0)
        self.assertIsNone(machine.begin("a", tick=1))
        self.assert_states(machine, a="starting")
        self.assertIsNone(machine.ended("a", tick=2))
        self.assert_states(machine, a="on")
        machine.turn_off("a", tick=3)
        self.assert_states(machine, a="on")
        self.assertIsNone(machine.begin("a", tick=3))
        self.assert_states(machine, a="stopping")
        self.assertIsNone(machine.ended("a", tick=4))
        self.assert_states(machine, a="off")

    def test_a_goal_and_a_door_at_once(self):
        machine = machine_of(goal("g"), door("d", "x"))
        for name in "gd":
            machine.turn_on(name, tick=0)
            self.assertIsNone(machine.begin(name, tick=0))
            self.assertEqual(machine.state(name), "on")
            machine.turn_off(name, tick=0)
            self.assertIsNone(machine.begin(name, tick=0))
            self.assertEqual(machine.state(name), "off")

    def test_not_ready(self):
        machine = machine_of(Unit("a", needs=("b",)), Unit("b"), goal("g"))
        for name in "abg":
            self.assert_refused(NotReady, machine, lambda m: m.begin(name, tick=0))
        machine.turn_on("a", tick=0)
        self.assert_refused(NotReady, machine, lambda m: m.begin("a", tick=0))
        machine.begin("b", tick=0)
        for name in "ab":
            self.assert_refused(NotReady, machine, lambda m: m.begin(name, tick=0))
        machine.ended("b", tick=0)
        self.assert_refused(NotReady, machine, lambda m: m.begin("b", tick=0))
        machine.begin("a", tick=0)
        machine.turn_off("b", tick=0)
        self.assert_refused(NotReady, machine, lambda m: m.begin("b", tick=0))
        machine.begin("a", tick=0)
        self.assert_refused(NotReady, machine, lambda m: m.begin("a", tick=0))

    def test_ended_badly_while_stopping(self):
        machine = machine_of(Unit("a", rule=Rule()))
        bring_up(machine, "a")
        machine.turn_off("a", tick=1)
        machine.begin("a", tick=1)
        machine.turn_on("a", tick=1)
        machine.ended("a", tick=1, good=False)
        self.assertEqual((machine.state("a"), machine.wish("a"), machine.falls("a")), ("off", "on", []))

    def test_ended_badly_while_starting(self):
        machine = machine_of(Unit("a", rule=Rule(first=7)))
        machine.turn_on("a", tick=1)
        machine.begin("a", tick=1)
        machine.ended("a", tick=2, good=False)
        self.assertEqual((machine.state("a"), machine.wish("a"), machine.falls("a"), machine.due("a")),
                         ("off", "later", [2], 9))

    def test_not_begun(self):
        machine = machine_of(Unit("a"), goal("g"), door("d", "a"))
        for good in (True, False):
            for name in "agd":
                self.assert_refused(NotBegun, machine, lambda m: m.ended(name, tick=0, good=good))
        bring_up(machine, "a", "g", "d")
        for good in (True, False):
            for name in "agd":
                self.assert_refused(NotBegun, machine, lambda m: m.ended(name, tick=0, good=good))

    def test_died(self):
        machine = machine_of(Unit("a", rule=Rule(first=3)))
        bring_up(machine, "a", tick=1)
        self.assertIsNone(machine.died("a", tick=4))
        self.assertEqual((machine.state("a"), machine.wish("a"), machine.falls("a"), machine.due("a")),
                         ("off", "later", [4], 7))

    def test_not_on(self):
        machine = machine_of(Unit("a"), goal("g"), door("d", "a"))
        for name in "agd":
            self.assert_refused(NotOn, machine, lambda m: m.died(name, tick=0))
        bring_up(machine, "g", "d")
        for name in "gd":
            self.assert_refused(NotOn, machine, lambda m: m.died(name, tick=0))
        machine.turn_on("a", tick=0)
        self.assert_refused(NotOn, machine, lambda m: m.died("a", tick=0))
        machine.begin("a", tick=0)
        self.assert_refused(NotOn, machine, lambda m: m.died("a", tick=0))
        machine.ended("a", tick=0)
        machine.turn_off("a", tick=0)
        machine.begin("a", tick=0)
        self.assert_refused(NotOn, machine, lambda m: m.died("a", tick=0))

    def test_no_fall_of_one_whose_wish_is_another(self):
        machine = machine_of(Unit("a", rule=Rule()), Unit("b", needs=("a",), rule=Rule()))
        bring_up(machine, "b")
        machine.turn_off("b", tick=1)
        machine.died("b", tick=1)
        self.assertEqual((machine.wish("b"), machine.falls("b"), machine.due("b")), ("off", [], None))
        bring_up(machine, "b", tick=1)
        machine.died("a", tick=2)
        self.assertEqual(machine.wish("b"), "back")
        machine.died("b", tick=2)
        self.assertEqual((machine.state("b"), machine.wish("b"), machine.falls("b")), ("off", "back", []))

    def test_no_fall_of_one_that_did_not_stand(self):
        for dies in (True, False):
            machine = machine_of(Unit("a"), Unit("b", needs=("a",), rule=Rule()))
            bring_up(machine, "a")
            machine.turn_on("b", tick=1)
            machine.begin("b", tick=1)
            machine.turn_off("a", tick=1)
            machine.died("a", tick=1)
            machine.turn_on("b", tick=1)
            if dies:
                machine.ended("b", tick=1)
                machine.died("b", tick=2)
            else:
                machine.ended("b", tick=2, good=False)
            self.assertEqual((machine.state("b"), machine.wish("b"), machine.falls("b")), ("off", "on", []))
            self.assertEqual(machine.ready(), [("start", "a")])


class Putting(MachineCase):
    def test_a_new_one(self):
        machine = machine_of(Unit("a", needs=("b",)))
        old = machine.shelf()
        self.assert_refused(Lack, machine, lambda m: m.turn_on("a", tick=0))
        self.assertIsNone(machine.put(Unit("b"), tick=1))
        self.assertEqual(machine.shelf().names(), ["a", "b"])
        self.assertEqual(old.names(), ["a"])
        self.assertEqual((machine.state("b"), machine.wish("b"), machine.due("b"), machine.falls("b"),
                          machine.kept("b")), ("off", "off", None, [], 0))
        machine.turn_on("a", tick=1)
        self.assertEqual(wishes(machine), {"a": "on", "b": "on"})

    def test_in_the_place_of_another(self):
        machine = machine_of(Unit("a", needs=("x",)), Unit("b"))
        old = machine.shelf()
        machine.put(Unit("a", kind="goal", wants=("b",)), tick=0)
        self.assertEqual(fields(machine.shelf().unit("a")), fields(Unit("a", kind="goal", wants=("b",))))
        self.assertEqual(old.unit("a"), Unit("a", needs=("x",)))
        self.assertEqual(len(machine.shelf()), 2)
        bring_up(machine, "a", tick=1)
        self.assertEqual(states(machine), {"a": "on", "b": "on"})

    def test_running(self):
        machine = machine_of(Unit("a", rule=Rule()), Unit("b", needs=("a",)))
        refused = lambda name: self.assert_refused(Running, machine, lambda m: m.put(Unit(name), tick=1))
        machine.turn_on("b", tick=1)
        self.assertEqual((machine.state("a"), machine.wish("a")), ("off", "on"))
        refused("a")
        machine.begin("a", tick=1)
        refused("a")
        machine.ended("a", tick=1)
        refused("a")
        settle(machine, tick=1)
        machine.turn_off("a", tick=1)
        self.assertEqual((machine.state("b"), machine.wish("b")), ("on", "off"))
        refused("b")
        machine.begin("b", tick=1)
        refused("b")
        machine.turn_on("b", tick=1)
        machine.ended("b", tick=1)
        settle(machine, tick=1)
        machine.died("a", tick=1)
        settle(machine, tick=1)
        self.assertEqual((states(machine), wishes(machine)),
                         ({"a": "off", "b": "off"}, {"a": "later", "b": "back"}))
        refused("a")
        refused("b")
        machine.turn_off("a", tick=1)
        machine.put(Unit("a"), tick=1)
        machine.put(Unit("b"), tick=1)

    def test_running_ahead_of_no_shelf(self):
        machine = Machine([Unit(name) for name in SIXTEEN])
        machine.turn_on("a", tick=0)
        self.assert_refused(Running, machine, lambda m: m.put(Unit("a"), tick=0))
        refusal = self.assert_refused(NoShelf, machine, lambda m: m.put(Unit("seventh"), tick=0))
        self.assertEqual(refusal.name, "seventh")
        machine.put(Unit("b", needs=("a",)), tick=0)
        self.assertEqual(machine.shelf().unit("b").needs, ("a",))

    def test_its_falls_are_forgotten(self):
        machine = machine_of(Unit("a", rule=Rule()))
        bring_up(machine, "a")
        machine.died("a", tick=1)
        machine.turn_off("a", tick=1)
        self.assertEqual(machine.falls("a"), [1])
        machine.put(Unit("a", rule=Rule()), tick=1)
        self.assertEqual(machine.falls("a"), [])

    def test_others_are_as_they_were(self):
        machine = machine_of(Unit("a", rule=Rule(first=9)), Unit("b"), door("d", "a"))
        bring_up(machine, "a", "b", "d")
        machine.died("a", tick=1)
        machine.knock("d", tick=1)
        before = snapshot(machine)[0]
        machine.put(Unit("c", bars=("a", "b")), tick=1)
        after = snapshot(machine)[0]
        self.assertEqual({name: after[name] for name in before}, before)


class WhatIsTold(MachineCase):
    def test_lists_are_the_askers_own(self):
        machine = machine_of(Unit("a", rule=Rule(first=2)), Unit("b"), Unit("c"))
        bring_up(machine, "a", "b")
        machine.died("a", tick=1)
        machine.turn_on("c", tick=1)
        for ask in (lambda: machine.ready(), lambda: machine.rows(), lambda: machine.falls("a")):
            told = ask()
            self.assertIs(type(told), list)
            right = list(told)
            self.assertGreater(len(right), 0)
            told.clear()
            self.assertEqual(ask(), right)
        told = [machine.ready(), machine.rows(), machine.falls("a")]
        kept = [list(part) for part in told]
        woken = machine.wake(tick=3)
        self.assertEqual(woken, ["a"])
        bring_up(machine, "a", "c", tick=4)
        machine.died("a", tick=5)
        self.assertEqual(told, kept)
        woken.clear()
        self.assertEqual(machine.falls("a"), [1, 5])

    def test_stands_and_shelves_stay(self):
        machine = machine_of(Unit("a"), Unit("b"))
        stand, shelf = machine.stand(), machine.shelf()
        self.assertIs(type(stand), Stand)
        bring_up(machine, "a", "b")
        machine.put(Unit("c"), tick=1)
        self.assertEqual((four(stand), shelf.names()), (((), (), (), ()), ["a", "b"]))

    def test_rows_are_tuples(self):
        machine = machine_of(Unit("a"))
        bring_up(machine, "a", tick=2)
        for row in machine.rows():
            self.assertIs(type(row), tuple)
            self.assertEqual([type(part) for part in row], [int, str, str, int])

    def test_questions_change_nothing(self):
        machine = machine_of(Unit("a", rule=Rule()), Unit("b", needs=("a",)))
        bring_up(machine, "b")
        machine.died("a", tick=1)
        self.assertEqual(snapshot(machine), snapshot(machine))


class Refusals(MachineCase):
    def test_of_two_the_one_that_stands_first(self):
        machine = machine_of(Unit("a", needs=("x", "b"), bars=("b",)), Unit("b"), door("d", "b"))
        self.assert_refused(Lack, machine, lambda m: m.turn_on("a", tick=0))
        self.assert_refused(NoDoor, machine, lambda m: m.knock("b", tick=0))
        self.assert_refused(NotOn, machine, lambda m: m.knock("d", tick=0))
        for deed in itertools.islice(all_deeds("x", 0).values(), 7):
            self.assert_refused(NoUnit, machine, deed)
        machine = machine_of(door("d", "b"), Unit("b"), room=1)
        bring_up(machine, "d")
        machine.knock("d", tick=1)
        self.assert_refused(Full, machine, lambda m: m.knock("d", tick=1))


if __name__ == "__main__":
    unittest.main()
