"""The whole: promises 1, 2 and 3, over stories of machines that are drawn at random, each time the same."""

import unittest
from random import Random

from tests.machine_cases import MachineCase, snapshot
from tests.model import (
    barred_with, behind_told, plan_told, ready_told, stand_fits, stands_told, told_by_steps, words_told)
from tests.things import NO_NAMES, four, some_shelves, some_stand
from unitwants.ends import foretold, told_by
from unitwants.errors import (
    Clash, Full, Knot, Lack, NoDoor, NoShelf, NotBegun, NotOn, NotReady, NoTick, NoUnit, Running, UnitError)
from unitwants.follows import clash_in, followed
from unitwants.knots import knot_in, order_of
from unitwants.looker import holds
from unitwants.machines import Machine
from unitwants.papers import paper_on
from unitwants.plans import behind, plan_off, plan_on
from unitwants.rules import Rule, waits
from unitwants.shelves import Shelf
from unitwants.stands import fits, open_in
from unitwants.texts import read_shelf, show_shelf
from unitwants.units import Unit

SEED = 20260
NAMES = ("a", "b", "c", "d", "e", "f", "g")
WORDS = {"starting": "starting", "on": "up", "stopping": "stopping", "off": "down"}
# How often each deed is drawn.
MANY = {"turn_on": 4, "turn_off": 1, "begin": 6, "good": 4, "bad": 1, "died": 2, "knock": 3, "wake": 2, "put": 1}
REFUSALS = (UnitError, NoUnit, NoShelf)


def lively_unit(source, name):
    """A unit of few needs and bars, so that many of them can be up at once, and of rules that soon run out."""
    others = [other for other in NAMES if other != name]
    lists = {word: tuple(source.sample(others, source.choice(many))) for word, many in (
        ("needs", (0, 0, 1, 1, 2)), ("wants", (0, 1, 2)), ("bars", (0, 0, 0, 0, 0, 1)), ("after", (0, 1, 1)))}
    kind = source.choice(("work", "work", "work", "goal", "door"))
    rule = Rule(first=source.randint(1, 6), burst=source.randint(0, 3), span=source.randint(0, 60))
    return Unit(name, kind=kind, opens=source.choice(others) if kind == "door" else None,
                rule=source.choice((rule, rule, None)), **lists)


def some_machine(source):
    there = source.sample(NAMES, source.choice((5, 7, 7, 7)))
    return Machine([lively_unit(source, name) for name in there], room=source.randint(1, 3))


def some_deed(source, machine):
    """A deed that is likely to be let, as (word, name or unit)."""
    names = machine.shelf().names()
    ready = [name for way, name in machine.ready()]
    begun = [name for name in names if machine.state(name) in ("starting", "stopping")]
    alive = [name for name in names if machine.state(name) == "on" and machine.shelf().unit(name).kind == "work"]
    doors = [name for name in names if machine.state(name) == "on" and machine.shelf().unit(name).kind == "door"]
    likely = {"turn_on": names, "turn_off": names, "begin": ready, "good": begun, "bad": begun, "died": alive,
              "knock": doors, "wake": names, "put": names}
    words = [word for word, many in MANY.items() for turn in range(many) if likely[word] or source.randint(0, 9) == 0]
    word = source.choice(words)
    if word == "put":
        return word, lively_unit(source, source.choice(NAMES))
    return word, source.choice(likely[word] or names)


def do(machine, word, told, tick):
    if word == "wake":
        return machine.wake(tick=tick)
    if word in ("good", "bad"):
        return machine.ended(told, tick=tick, good=word == "good")
    return getattr(machine, word)(told, tick=tick)


def each_of(machine, at):
    """By each name one part of what the machine tells of it: 0 state, 1 wish, 2 due, 3 falls, 4 kept."""
    return {name: parts[at] for name, parts in snapshot(machine)[0].items()}


def right_refusal(machine, word, told, tick):
    """The kind of the refusal that is due first, by the brackets of the interface; None without any."""
    shelf = machine.shelf()
    if tick < machine.last_tick():
        return NoTick
    if word == "wake":
        return None
    if word == "put":
        if shelf.has(told.name) and (machine.state(told.name), machine.wish(told.name)) != ("off", "off"):
            return Running
        return NoShelf if len(shelf) == 16 and not shelf.has(told.name) else None
    if not shelf.has(told):
        return NoUnit
    state, kind = machine.state(told), shelf.unit(told).kind
    if word == "turn_on":
        return {"lack": Lack, "clash": Clash, "knot": Knot, "plan": None}[plan_told(shelf, machine.stand(), told)[0]]
    if word == "begin":
        return None if told in [name for way, name in machine.ready()] else NotReady
    if word in ("good", "bad"):
        return None if state in ("starting", "stopping") else NotBegun
    if word == "died":
        return None if state == "on" and kind == "work" else NotOn
    if word == "knock":
        return NoDoor if kind != "door" else NotOn if state != "on" else (
            Full if machine.kept(told) == machine.room else None)
    return None


class Stories(MachineCase):
    """Each story is some deeds of one machine; what is asked of it is asked behind each of them."""

    def stories(self, count, length=45):
        source = Random(SEED)
        for turn in range(count):
            machine = some_machine(source)
            tick = 0
            for step in range(length):
                tick = max(0, tick + source.choice((0, 0, 1, 3, 12, 90, -1)))
                word, told = some_deed(source, machine)
                before = machine.twin()
                kind = right_refusal(machine, word, told, tick)
                if kind is not None:
                    self.assert_refused(kind, machine, lambda m: do(m, word, told, tick))
                    tick = max(tick, machine.last_tick())
                    continue
                answer = do(machine, word, told, tick)
                yield source, before, machine, word, told, tick, answer

    def test_a_machine_is_as_its_rows_tell(self):
        for source, before, machine, word, told, tick, answer in self.stories(60):
            by_rows = {row[0]: row[1:] for row in told_by(machine.rows())}
            for name in machine.shelf().names():
                self.assertEqual(by_rows.get(name, ("off", "off", 0)),
                                 (machine.state(name), machine.wish(name), machine.kept(name)))
            self.assertEqual(machine.last_tick(), tick)
            self.assertEqual(machine.rows()[:len(before.rows())], before.rows())

    def test_its_stand_always_fits(self):
        for source, before, machine, word, told, tick, answer in self.stories(60):
            stand, states = machine.stand(), each_of(machine, 0)
            wishes = each_of(machine, 1)
            self.assertTrue(stand_fits(machine.shelf(), stand))
            self.assertIs(fits(machine.shelf(), stand), True)
            self.assertEqual(stand.up, tuple(name for name in states if stands_told(machine.shelf(), states, name)))
            for names, wish in ((stand.wished, "on"), (stand.later, "later"), (stand.back, "back")):
                self.assertEqual(names, tuple(name for name in wishes if wishes[name] == wish))
            for name in wishes:
                self.assertIs(machine.due(name) is None, wishes[name] != "later")

    def test_what_is_ready(self):
        for source, before, machine, word, told, tick, answer in self.stories(60):
            self.assertEqual(machine.ready(), ready_told(machine.shelf(), each_of(machine, 0), each_of(machine, 1)))

    def test_none_is_begun_ahead_of_its_need_or_beside_a_barred_one(self):
        begun = 0
        for source, before, machine, word, told, tick, answer in self.stories(60):
            states = each_of(machine, 0)
            if word == "begin" and states[told] in ("starting", "on"):
                begun += 1
                for other in machine.shelf().unit(told).needs:
                    self.assertEqual(states[other], "on")
                    self.assertTrue(stands_told(machine.shelf(), states, other))
                for other in machine.shelf().names():
                    if barred_with(machine.shelf(), told, other):
                        self.assertEqual(states[other], "off")
        self.assertGreater(begun, 200)

    def right_rows(self, before, machine, word, told, tick):
        """The rows that promise 23 asks of a deed that is no waking, by what it changed."""
        name = told.name if word == "put" else told
        if word == "put":
            return [(tick, "put", name, 0)]
        rows = []
        if before.state(name) != machine.state(name):
            rows.append((tick, WORDS[machine.state(name)], name, 0))
            if machine.state(name) == "off" and before.kept(name) > 0:
                rows.append((tick, "lost", name, before.kept(name)))
        stood = before.wish(name) == "on" and name in before.stand().up
        if stood and (word == "died" or word == "bad" and before.state(name) == "starting"):
            due = machine.due(name)
            rows.append((tick, "fell", name, 0 if due is None else due - tick))
        for other in machine.shelf().names():
            if before.wish(other) != machine.wish(other):
                due = machine.due(other)
                rows.append((tick, machine.wish(other), other, 0 if due is None else due))
        return rows

    def right_knocks(self, before, machine, word, told, tick, answer):
        """The rows of knocks behind all others, by what the doors kept."""
        rows, kept = [], each_of(before, 4)
        if word == "knock":
            rows.append((tick, "missed" if answer == "missed" else "kept", told, 1))
            kept[told] += answer != "missed"
        if word == "begin" and machine.state(told) == "off":
            kept[told] = 0
        for name in machine.shelf().names():
            if kept.get(name, 0) != machine.kept(name):
                self.assertEqual(machine.kept(name), 0)
                rows.append((tick, "handed", name, kept[name]))
        return rows

    def test_the_rows_of_each_deed(self):
        words = {}
        for source, before, machine, word, told, tick, answer in self.stories(80):
            rows = machine.rows()[len(before.rows()):]
            for row in rows:
                words[row[1]] = words.get(row[1], 0) + 1
            if word != "wake":
                right = self.right_rows(before, machine, word, told, tick)
                self.assertEqual(rows, right + self.right_knocks(before, machine, word, told, tick, answer))
        # One that is stuck is seldom drawn; test_falls and test_ends tell of it.
        self.assertEqual(set(words) | {"stuck"}, {
            "put", "starting", "up", "stopping", "down", "lost", "fell", "on", "off", "later", "back", "kept", "missed",
            "handed", "woken", "stuck"})

    def test_wakings(self):
        woken = 0
        for source, before, machine, word, told, tick, answer in self.stories(150):
            if word == "wake":
                due = sorted((before.due(name), name) for name in before.shelf().names()
                             if before.wish(name) == "later" and before.due(name) <= tick)
                rows = machine.rows()[len(before.rows()):]
                tried = [row for row in rows if row[1] in ("woken", "stuck")]
                self.assertEqual([row[2] for row in tried], [name for when, name in due])
                self.assertEqual(answer, [row[2] for row in tried if row[1] == "woken"])
                for name in before.shelf().names():
                    if before.wish(name) == "on":
                        self.assertEqual(machine.wish(name), "on")
                    if before.wish(name) == "later" and (before.due(name), name) not in due:
                        self.assertIn(machine.wish(name), ("later", "off"))
                for row in tried:
                    self.assertEqual(machine.falls(row[2]), before.falls(row[2]) if row[1] == "woken" else [])
                woken += len(answer)
        self.assertGreater(woken, 50)

    def test_falls(self):
        given_up = later = 0
        for source, before, machine, word, told, tick, answer in self.stories(80):
            fell = [row for row in machine.rows()[len(before.rows()):] if row[1] == "fell"]
            for row in fell:
                rule = machine.shelf().unit(told).rule
                wait = None if rule is None else waits(rule, [*before.falls(told), tick])[-1]
                needing = {name for name, way in told_by_steps(machine.shelf(), [(told, "off")])} - {told}
                if wait is None:
                    given_up += 1
                    self.assertEqual((machine.wish(told), machine.falls(told), machine.due(told)), ("off", [], None))
                    self.assertLessEqual({machine.wish(name) for name in needing}, {"off"})
                else:
                    later += 1
                    self.assertEqual((machine.wish(told), machine.falls(told), machine.due(told)),
                                     ("later", [*before.falls(told), tick], tick + wait))
                    for name in needing:
                        self.assertEqual(machine.wish(name), "off" if before.wish(name) == "off" else "back")
                for name in set(machine.shelf().names()) - needing - {told}:
                    self.assertEqual(machine.wish(name), before.wish(name))
            if not fell and word in ("good", "bad", "died", "begin"):
                self.assertEqual(each_of(machine, 1), each_of(before, 1))
        self.assertGreater(min(given_up, later), 50)

    def test_off_turns_off_just_what_needs_it(self):
        for source, before, machine, word, told, tick, answer in self.stories(60):
            if word == "turn_off":
                gone = {name for name, way in told_by_steps(machine.shelf(), [(told, "off")])}
                self.assertEqual({row[0] for row in answer.demands}, gone)
                for name in machine.shelf().names():
                    self.assertEqual(machine.wish(name), "off" if name in gone else before.wish(name))
                self.assertEqual(each_of(machine, 0), each_of(before, 0))

    def test_on_turns_wishes_as_behind_the_plan(self):
        for source, before, machine, word, told, tick, answer in self.stories(60):
            if word == "turn_on":
                right, dropped = plan_told(before.shelf(), before.stand(), told)[1]
                self.assertEqual({row[:2] for row in answer.demands}, right)
                self.assertEqual(four(machine.stand()), behind_told(before.stand(), right))
                for name in machine.shelf().names():
                    fresh = (before.wish(name), machine.wish(name)) == ("off", "on")
                    self.assertEqual(machine.falls(name), [] if fresh else before.falls(name))

    def test_each_kept_knock_is_handed_or_lost_or_kept_once(self):
        counts = {"kept": 0, "handed": 0, "lost": 0, "missed": 0}
        for source, before, machine, word, told, tick, answer in self.stories(80):
            for name in machine.shelf().names():
                sums = {told_word: sum(row[3] for row in machine.rows() if row[1:3] == (told_word, name))
                        for told_word in counts}
                self.assertEqual(sums["kept"], sums["handed"] + sums["lost"] + machine.kept(name))
                self.assertTrue(0 <= machine.kept(name) <= machine.room)
                opened = machine.shelf().unit(name).opens
                if machine.kept(name) > 0:
                    self.assertEqual(machine.state(name), "on")
                    self.assertNotEqual((machine.state(opened), machine.wish(opened), opened in machine.stand().up),
                                        ("on", "on", True))
            for row in machine.rows()[len(before.rows()):]:
                if row[1] in counts:
                    counts[row[1]] += row[3]
            if word == "knock":
                opened = before.shelf().unit(told).opens
                bars = not before.shelf().has(opened) or (
                    before.wish(opened) == "off" and plan_told(before.shelf(), before.stand(), opened)[0] != "plan")
                self.assertEqual(answer == "missed", bars)
                if not bars:
                    self.assertEqual(answer, "handed" if machine.kept(told) == 0 else "kept")
        self.assertGreater(min(counts.values()), 0, counts)

    def run_to_the_end(self, source, machine, bad):
        """Begins and ends in any order until nothing can be; each whose wish is on is on then, and no other one."""
        runner = machine.twin()
        tick = runner.last_tick()
        while True:
            moves = [("begin", name) for way, name in runner.ready()]
            for name in runner.shelf().names():
                if runner.state(name) in ("starting", "stopping"):
                    moves.append(("bad" if runner.state(name) == "starting" and name in bad else "good", name))
            if not moves:
                break
            do(runner, *source.choice(moves), tick)
        for name in runner.shelf().names():
            self.assertEqual(runner.state(name), "on" if runner.wish(name) == "on" else "off")
        return sorted((name, runner.state(name), runner.wish(name)) for name in runner.shelf().names())

    def test_whatever_order_the_same_end(self):
        for at, (source, before, machine, word, told, tick, answer) in enumerate(self.stories(60)):
            if at % 7 == 0:
                bad = tuple(source.sample(NAMES, source.randint(0, 4)))
                kept = snapshot(machine)
                end = foretold(machine, bad=bad)
                self.assertEqual(snapshot(machine), kept)
                for turn in range(4):
                    self.assertEqual(self.run_to_the_end(source, machine, bad), end)
                self.assertEqual(snapshot(machine), kept)

    def test_the_looker_lets_the_papers_of_each_stand_by(self):
        for at, (source, before, machine, word, told, tick, answer) in enumerate(self.stories(40)):
            if at % 5 == 0:
                for name in machine.shelf().names():
                    paper = paper_on(machine.shelf(), machine.stand(), name)
                    self.assertIs(holds(machine.shelf(), machine.stand(), paper), True)

    def test_refusals_of_names_that_are_none(self):
        for at, (source, before, machine, word, told, tick, answer) in enumerate(self.stories(3)):
            for name in NO_NAMES[at % 5::5]:
                for deed in ("turn_on", "turn_off", "begin", "good", "bad", "died", "knock"):
                    self.assert_refused(NoUnit, machine, lambda m: do(m, deed, name, tick))

    def test_the_same_each_time(self):
        ends = []
        for turn in range(2):
            ends.append([snapshot(story[2]) for story in self.stories(3)][-1])
        self.assertEqual(ends[0], ends[1])


class Plans(unittest.TestCase):
    def each(self):
        source = Random(SEED + 1)
        for most in (1, 2):
            for shelf in some_shelves(SEED + most, 120, most=most):
                stand = some_stand(source, shelf)
                for name in shelf.names():
                    yield shelf, stand, name

    def refusal_papers(self, shelf, stand, name):
        """Refusals as near to being so as can be, whether they are due or not."""
        first = (name, "on")
        missing = [(other, need) for other in shelf.names() for need in shelf.unit(other).needs if not shelf.has(need)]
        for other, need in missing[:4]:
            yield ("lack", name, (first, (other, "on")), need)
            yield ("lack", name, (first,), need)
        for other in shelf.names():
            yield ("clash", name, (first, (other, "on")), (first, (other, "off")))
            yield ("knot", name, (name, other))
        ring = knot_in(shelf, shelf.names())
        if ring is not None:
            yield ("knot", name, tuple(ring))

    def test_a_plan_or_a_refusal_and_never_both(self):
        counts = {"plan": 0, "refused": 0}
        for shelf, stand, name in self.each():
            paper = paper_on(shelf, stand, name)
            self.assertIs(holds(shelf, stand, paper), True)
            try:
                plan = plan_on(shelf, stand, name)
            except REFUSALS:
                counts["refused"] += 1
                self.assertNotEqual(paper[0], "plan")
                open_ones = tuple(open_in(stand))
                for rows in ((), ((name, "on", -1),)):
                    for order in (open_ones, (name, *open_ones), (*open_ones, name)):
                        self.assertIs(holds(shelf, stand, ("plan", name, rows, (), order)), False)
                continue
            counts["plan"] += 1
            self.assertEqual(paper[:4], ("plan", name, plan.demands, plan.dropped))
            for refusal in self.refusal_papers(shelf, stand, name):
                self.assertIs(holds(shelf, stand, refusal), False)
        self.assertGreater(min(counts.values()), 200)

    def test_just_what_follows_and_no_want_that_could_be_put_to_it(self):
        for shelf, stand, name in self.each():
            if plan_told(shelf, stand, name)[0] == "plan":
                plan = plan_on(shelf, stand, name)
                had = [row[:2] for row in plan.demands]
                core = set(told_by_steps(shelf, [(name, "on")]))
                self.assertEqual(sorted(had), followed(shelf, had))
                self.assertIsNone(clash_in(had))
                for asker, wanted, word in plan.dropped:
                    self.assertIn(word, words_told(shelf, stand, had, wanted))
                held = {*stand.wished, *stand.later, *stand.back}
                self.assertFalse([row for row in set(had) - core if row[1] == "off" and row[0] in held])

    def test_behind_each_plan_the_stand_fits(self):
        for shelf, stand, name in self.each():
            plans = [plan_off(shelf, stand, name)]
            if plan_told(shelf, stand, name)[0] == "plan":
                plans.append(plan_on(shelf, stand, name))
            for plan in plans:
                told = behind(stand, plan)
                self.assertTrue(stand_fits(shelf, told))
                self.assertIs(fits(shelf, told), True)
                order_of(shelf, open_in(told))

    def test_what_is_written_is_read_as_the_same(self):
        for shelf, stand, name in self.each():
            again = read_shelf(show_shelf(shelf))
            self.assertEqual([again.unit(other) for other in again.names()],
                             [shelf.unit(other) for other in shelf.names()])
            self.assertEqual(paper_on(again, stand, name), paper_on(shelf, stand, name))


class Things(unittest.TestCase):
    def test_truths_are_no_names_and_no_numbers(self):
        shelf = Shelf([Unit("a", needs=("b",)), Unit("b")])
        for thing in (True, False, 1, 0):
            self.assertIs(shelf.has(thing), False)
            with self.assertRaises(NoUnit):
                plan_on(shelf, Machine().stand(), thing)
        machine = Machine([Unit("a")])
        machine.turn_on("a", tick=1)
        for row in machine.rows():
            self.assertEqual([type(part) for part in row], [int, str, str, int])


if __name__ == "__main__":
    unittest.main()
