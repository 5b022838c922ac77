"""What the tests of machines share."""

import unittest

from tests.things import four, shelf_fields
from unitwants.machines import Machine
from unitwants.units import Unit


def door(name, opens, **told):
    return Unit(name, kind="door", opens=opens, **told)


def goal(name, **told):
    return Unit(name, kind="goal", **told)


def machine_of(*units, **told):
    return Machine(list(units), **told)


def snapshot(machine):
    """All that a machine tells, to be compared with what it tells later."""
    names = machine.shelf().names()
    each = {name: (machine.state(name), machine.wish(name), machine.due(name), machine.falls(name), machine.kept(name))
            for name in names}
    return (each, machine.ready(), machine.rows(), four(machine.stand()), machine.last_tick(),
            shelf_fields(machine.shelf()))


def states(machine):
    return {name: machine.state(name) for name in machine.shelf().names()}


def wishes(machine):
    return {name: machine.wish(name) for name in machine.shelf().names()}


def bring_up(machine, *names, tick=0):
    """The names are asked for; then all that is ready is begun, and ended well."""
    for name in names:
        machine.turn_on(name, tick=tick)
    settle(machine, tick=tick)


def settle(machine, *, tick=0):
    """Begins and ends well all that can be, until nothing can be."""
    going = True
    while going:
        going = False
        for way, name in machine.ready()[:1]:
            machine.begin(name, tick=tick)
            going = True
        for name in machine.shelf().names():
            if machine.state(name) in ("starting", "stopping"):
                machine.ended(name, tick=tick)
                going = True


def all_deeds(name, tick):
    """Each deed, as a function of a machine, with this name and tick."""
    return {
        "turn_on": lambda m: m.turn_on(name, tick=tick), "turn_off": lambda m: m.turn_off(name, tick=tick),
        "begin": lambda m: m.begin(name, tick=tick), "good": lambda m: m.ended(name, tick=tick),
        "bad": lambda m: m.ended(name, tick=tick, good=False), "died": lambda m: m.died(name, tick=tick),
        "knock": lambda m: m.knock(name, tick=tick), "wake": lambda m: m.wake(tick=tick),
        "put": lambda m: m.put(Unit("new"), tick=tick)}


class MachineCase(unittest.TestCase):
    def assert_refused(self, kind, machine, deed):
        """It is refused with this kind, and the machine is as it was."""
        before = snapshot(machine)
        with self.assertRaises(kind) as caught:
            deed(machine)
        self.assertIs(type(caught.exception), kind)
        self.assertEqual(snapshot(machine), before)
        return caught.exception

    def assert_rows(self, machine, deed, rows):
        """The deed leaves just these rows behind those that were there."""
        before = machine.rows()
        told = deed(machine)
        self.assertEqual(machine.rows()[:len(before)], before)
        self.assertEqual(machine.rows()[len(before):], rows)
        return told

    def assert_states(self, machine, **told):
        self.assertEqual({name: machine.state(name) for name in told}, told)

    def assert_wishes(self, machine, **told):
        self.assertEqual({name: machine.wish(name) for name in told}, told)
