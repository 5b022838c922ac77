"""Machines: units whose wishes are turned by plans, begun and ended by deeds."""

from unitwants.errors import Clash, Full, Knot, Lack, NoDoor, NoTick, NotBegun, NotOn, NotReady, Running
from unitwants.follows import followed
from unitwants.plans import behind, plan_off, plan_on
from unitwants.readiness import ready_in, standing_in
from unitwants.rules import waits
from unitwants.shelves import Shelf
from unitwants.stands import Stand

ROOM = 9
# The words by which rows tell a unit's new state.
STATE_WORDS = {"starting": "starting", "on": "up", "stopping": "stopping", "off": "down"}


def wish_in(stand, name):
    """The wish that the name has in the stand."""
    if name in stand.wished:
        return "on"
    if name in stand.later:
        return "later"
    return "back" if name in stand.back else "off"


class Machine:
    """The units of a shelf with their states, wishes, falls and knocks, and the rows of what was done."""

    def __init__(self, units=(), *, room=ROOM):
        self.held = Shelf(units)
        self.room = room
        self.states = {}
        self.wishes = {}
        self.dues = {}
        self.fallen = {}
        self.knocks = {}
        self.log = []
        self.last = 0
        for name in self.held.names():
            self.set_anew(name)

    def set_anew(self, name):
        """The unit as it is when it is put on the shelf."""
        self.states[name] = "off"
        self.wishes[name] = "off"
        self.dues[name] = None
        self.fallen[name] = []
        self.knocks[name] = 0

    def twin(self):
        """A machine that is as this one and shares nothing with it."""
        other = Machine((), room=self.room)
        other.held = self.held
        other.states = dict(self.states)
        other.wishes = dict(self.wishes)
        other.dues = dict(self.dues)
        other.fallen = {name: list(self.fallen[name]) for name in self.fallen}
        other.knocks = dict(self.knocks)
        other.log = list(self.log)
        other.last = self.last
        return other

    def state(self, name):
        """The state of the unit."""
        self.held.unit(name)
        return self.states[name]

    def wish(self, name):
        """The wish of the unit."""
        self.held.unit(name)
        return self.wishes[name]

    def due(self, name):
        """The tick from which on the unit may be woken; None where its wish isn't "later"."""
        self.held.unit(name)
        return self.dues[name]

    def falls(self, name):
        """The ticks of the unit's kept falls."""
        self.held.unit(name)
        return list(self.fallen[name])

    def kept(self, name):
        """How many knocks the unit keeps."""
        self.held.unit(name)
        return self.knocks[name]

    def ready(self):
        """What may be begun, a sorted list of tuples (way, name)."""
        return ready_in(self.held, self.states, self.wishes)

    def rows(self):
        """The rows (tick, word, name, number) of all deeds."""
        return list(self.log)

    def stand(self):
        """The names by their wishes, and those that stand."""
        names = self.held.names()
        return Stand(
            wished=tuple([name for name in names if self.wishes[name] == "on"]),
            up=tuple(standing_in(self.held, self.states)),
            later=tuple([name for name in names if self.wishes[name] == "later"]),
            back=tuple([name for name in names if self.wishes[name] == "back"]))

    def shelf(self):
        """The shelf of the units."""
        return self.held

    def last_tick(self):
        """The tick of the last deed; 0 ahead of any."""
        return self.last

    def check_tick(self, tick):
        """Refuses a tick ahead of the last deed's."""
        if tick < self.last:
            raise NoTick(f"ahead of the last deed, at {self.last}: {tick}")

    def note(self, tick, word, name, number):
        """One more row."""
        self.log.append((tick, word, name, number))

    def enter(self, name, state, tick):
        """The unit's new state; what a door keeps when it comes off is lost."""
        self.states[name] = state
        self.note(tick, STATE_WORDS[state], name, 0)
        if state == "off" and self.knocks[name] > 0:
            self.note(tick, "lost", name, self.knocks[name])
            self.knocks[name] = 0

    def turn_wishes(self, turned, tick):
        """The new wishes of some names; only those that change leave rows."""
        for name in sorted(turned):
            old = self.wishes[name]
            new = turned[name]
            if new == old:
                continue
            if new != "later":
                self.dues[name] = None
            if old == "off" and new == "on":
                self.fallen[name] = []
            self.wishes[name] = new
            self.note(tick, new, name, self.dues[name] if new == "later" else 0)

    def carry_out(self, plan, tick):
        """The wishes as in the stand behind the plan."""
        stand = behind(self.stand(), plan)
        self.turn_wishes({name: wish_in(stand, name) for name in self.held.names()}, tick)

    def settle(self, tick):
        """What stands behind each deed: it is the last one, and knocks are handed to those that are on."""
        self.last = tick
        takers = [name for name in standing_in(self.held, self.states)
                  if self.states[name] == "on" and self.wishes[name] == "on"]
        for name in self.held.names():
            if self.knocks[name] > 0 and self.held.unit(name).opens in takers:
                self.note(tick, "handed", name, self.knocks[name])
                self.knocks[name] = 0

    def off_with(self, name):
        """The unit, all that need it, what needs these, and so on."""
        return [other for other, way in followed(self.held, [(name, "off")])]

    def give_up(self, name, tick):
        """The unit is waited for no more, nor is what needs it."""
        self.fallen[name] = []
        self.turn_wishes({other: "off" for other in self.off_with(name)}, tick)

    def fall(self, name, tick):
        """The unit has fallen: it comes later by its rule, and what needs it comes back, or it is given up."""
        self.fallen[name].append(tick)
        rule = self.held.unit(name).rule
        wait = None if rule is None else waits(rule, self.fallen[name])[-1]
        if wait is None:
            self.note(tick, "fell", name, 0)
            self.give_up(name, tick)
            return
        self.note(tick, "fell", name, wait)
        self.dues[name] = tick + wait
        turned = {other: "back" for other in self.off_with(name) if self.wishes[other] != "off"}
        turned[name] = "later"
        self.turn_wishes(turned, tick)

    def drop_off(self, name, tick):
        """The unit comes off by a bad end or by dying."""
        fell = self.wishes[name] == "on" and name in standing_in(self.held, self.states)
        self.enter(name, "off", tick)
        if fell:
            self.fall(name, tick)

    def turn_on(self, name, *, tick):
        """The unit is turned on by the plan that is told."""
        self.check_tick(tick)
        plan = plan_on(self.held, self.stand(), name)
        self.carry_out(plan, tick)
        self.settle(tick)
        return plan

    def turn_off(self, name, *, tick):
        """The unit is turned off by the plan that is told."""
        self.check_tick(tick)
        plan = plan_off(self.held, self.stand(), name)
        self.carry_out(plan, tick)
        self.settle(tick)
        return plan

    def begin(self, name, *, tick):
        """The unit begins to start or to stop, whichever it is ready for; a goal and a door do so at once."""
        self.check_tick(tick)
        is_work = self.held.unit(name).kind == "work"
        ready = self.ready()
        if ("start", name) in ready:
            self.enter(name, "starting" if is_work else "on", tick)
        elif ("stop", name) in ready:
            self.enter(name, "stopping" if is_work else "off", tick)
        else:
            raise NotReady(f"not ready: {name}")
        self.settle(tick)

    def ended(self, name, *, tick, good=True):
        """The work that was starting or stopping has ended to do so."""
        self.check_tick(tick)
        state = self.state(name)
        if state not in ("starting", "stopping"):
            raise NotBegun(f"neither starting nor stopping: {name}")
        if state == "stopping":
            self.enter(name, "off", tick)
        elif good:
            self.enter(name, "on", tick)
        else:
            self.drop_off(name, tick)
        self.settle(tick)

    def died(self, name, *, tick):
        """The work that was on has died."""
        self.check_tick(tick)
        if self.held.unit(name).kind != "work" or self.states[name] != "on":
            raise NotOn(f"no work that is on: {name}")
        self.drop_off(name, tick)
        self.settle(tick)

    def put(self, unit, *, tick):
        """The unit is put on the shelf, new or in the place of that of its name."""
        self.check_tick(tick)
        name = unit.name
        if self.held.has(name) and (self.states[name] != "off" or self.wishes[name] != "off"):
            raise Running(f"not off, or its wish is not: {name}")
        self.held = self.held.with_unit(unit)
        self.set_anew(name)
        self.note(tick, "put", name, 0)
        self.settle(tick)

    def wake_one(self, name, tick):
        """Whether the fallen unit could be woken; else it is given up."""
        try:
            plan = plan_on(self.held, self.stand(), name)
        except (Lack, Clash, Knot):
            self.note(tick, "stuck", name, 0)
            self.give_up(name, tick)
            return False
        self.note(tick, "woken", name, 0)
        self.carry_out(plan, tick)
        return True

    def wake(self, *, tick):
        """All fallen units whose due tick has come are woken; told are those that could be."""
        self.check_tick(tick)
        later = [name for name in self.held.names() if self.wishes[name] == "later"]
        waiting = sorted([(self.dues[name], name) for name in later if self.dues[name] <= tick])
        woken = []
        for due, name in waiting:
            # One that was gone through ahead may have turned this one's wish.
            if self.wishes[name] == "later" and self.wake_one(name, tick):
                woken.append(name)
        self.settle(tick)
        return woken

    def check_door(self, name):
        """Refuses a knock at what is no door, or at one that is not on, or full."""
        if self.held.unit(name).kind != "door":
            raise NoDoor(f"no door: {name}")
        if self.states[name] != "on":
            raise NotOn(f"not on: {name}")
        if self.knocks[name] >= self.room:
            raise Full(f"no room for one more knock: {name}")

    def is_awaited(self, name, tick):
        """Whether a knock for the unit can be kept; one that nobody wishes is turned on for it."""
        if not self.held.has(name):
            return False
        if self.wishes[name] != "off":
            return True
        try:
            plan = plan_on(self.held, self.stand(), name)
        except (Lack, Clash, Knot):
            return False
        self.carry_out(plan, tick)
        return True

    def knock(self, name, *, tick):
        """Somebody knocks at the door: told is what became of it, "missed", "kept" or "handed"."""
        self.check_tick(tick)
        self.check_door(name)
        awaited = self.is_awaited(self.held.unit(name).opens, tick)
        if awaited:
            self.knocks[name] += 1
        self.note(tick, "kept" if awaited else "missed", name, 1)
        self.settle(tick)
        if not awaited:
            return "missed"
        return "kept" if self.knocks[name] > 0 else "handed"
