"""The console: promises 25 and 26."""

import inspect
import unittest

from tests.things import NO_TEXTS
from unitwants.console import Console
from unitwants.errors import (
    Clash, Full, Knot, Lack, NoDoor, NoRow, NotBegun, NotOn, NotReady, NoText, NoTick, NoUnit, UnitError)
from unitwants.shelves import Shelf
from unitwants.texts import show_shelf
from unitwants.units import Unit

TEXT = """unit a work
needs b
wants c gone
bars e
rule 5 2 64 5 100

unit b work
rule 3 2 64 5 100

unit c goal

unit d door
opens a

unit e work"""

HARD = """unit a work
needs x

unit b work
needs c
bars c

unit c work

unit d work
needs e

unit e work
after d

unit f door
opens a

unit g work"""

# Each word with how it goes on: name, tick, both, or nothing.
FORMS = {
    "on": "name tick", "off": "name tick", "begin": "name tick", "good": "name tick", "bad": "name tick",
    "died": "name tick", "knock": "name tick", "wake": "tick", "state": "name", "why": "name", "kept": "name",
    "ready": "", "rows": ""}
NO_NUMBERS = ("", "-1", "+1", "01", "00", "1.0", "1e3", "0x1", "1_0", "one", "1000001", "9999999", "10000000", "1" * 60,
              "1" * 1900, "-0", "1,", "a", "True", "None")
NO_WORDS = ("", "A", "aB", "a1", "1", "a-b", "a_b", "abcdefghi", "a" * 1900, "~", "a.", "-", "+a")
STRANGE_ROWS = (
    "", " ", "on", "on a", "on a 1 1", "on 1 a", "on a b", "off", "begin a", "good 1", "bad a 1 2", "died", "knock d",
    "wake", "wake a", "wake 1 2", "wake a 1", "state", "state a 1", "state a b", "ready a", "ready 1", "rows 1",
    "rows a",
    "why", "why a 1", "kept", "kept d 1", "On a 1", "ON a 1", "onn a 1", "put a 1", "ended a 1", "turn a 1", "no", "ok",
    "wish a", "due a", "falls a", "stand", "shelf", "run", "say", "tick 1", "on a 1\n", "\non a 1", "on a\n1",
    "on\na 1",
    "ready\n", "\nready", "ready\nready", "on a 1\non b 1", "rows\n", "on,a,1", "on a 1;", "[]", "None")


class ConsoleCase(unittest.TestCase):
    def told(self, console):
        """All that a console tells of its machine."""
        told = [console.runs, console.said, console.say("ready"), console.say("rows")]
        for name in "abcdefg":
            for word in ("state", "kept", "why"):
                try:
                    told.append(console.say(f"{word} {name}"))
                except NoUnit:
                    told.append(None)
        return told

    def assert_said(self, console, *pairs):
        for row, answer in pairs:
            told = console.say(row)
            self.assertIs(type(told), str)
            self.assertEqual(told, answer, row)

    def assert_refused(self, kind, console, row):
        before = self.told(console)
        with self.assertRaises(kind) as caught:
            console.say(row)
        self.assertIs(type(caught.exception), kind, row)
        self.assertEqual(self.told(console), before, row)
        return caught.exception


class Making(ConsoleCase):
    def test_of_a_text(self):
        console = Console(TEXT)
        self.assertEqual((console.runs, console.said), (0, 0))
        self.assertIs(type(console.runs), int)
        self.assertIs(type(console.said), int)
        self.assertLessEqual({"runs", "said"}, set(vars(console)))
        for name in "abcde":
            self.assertEqual(console.say(f"state {name}"), "off off")

    def test_of_the_text_without_signs(self):
        console = Console("")
        self.assert_said(console, ("ready", "-"), ("rows", "0"), ("wake 3", "-"))
        self.assert_refused(NoUnit, console, "state a")

    def test_no_text(self):
        for text in (*NO_TEXTS, " ", "\n", "a", "unit", "unit a", TEXT + "\n", "\n" + TEXT, TEXT.replace("work", "job"),
                     "unit b work\n\nunit a work", "unit a work\n\nunit a work", "unit a work\n\n\nunit b work"):
            with self.assertRaises(NoText):
                Console(text)
        sixteen = Shelf([Unit("a" + letter) for letter in "abcdefghijklmnop"])
        Console(show_shelf(sixteen))
        with self.assertRaises(NoText):
            Console(show_shelf(sixteen) + "\n\nunit b work")

    def test_by_name(self):
        self.assertEqual(Console(text="unit a work").say(row="ready"), "-")
        self.assertEqual(list(inspect.signature(Console).parameters), ["text"])
        self.assertEqual(list(inspect.signature(Console("").say).parameters), ["row"])
        parameters = inspect.signature(Console("").run).parameters
        self.assertEqual(list(parameters), ["rows", "stop"])
        self.assertIs(parameters["stop"].default, True)
        self.assertIs(parameters["stop"].kind, inspect.Parameter.KEYWORD_ONLY)

    def test_two_consoles_share_nothing(self):
        one, other = Console(TEXT), Console(TEXT)
        before = self.told(other)
        one.run(["on a 1", "begin b 1", "good b 1"])
        self.assertEqual(self.told(other), before)


class Answers(ConsoleCase):
    def test_on_and_off(self):
        self.assert_said(Console(TEXT), ("on e 0", "-a +e"), ("on a 1", "+a +b +c -e"), ("off b 1", "-a -b"),
                         ("off e 1", "-e"), ("on d 2", "+d"))

    def test_on_rising_by_names_not_by_signs(self):
        text = "unit aa work\nbars b\n\nunit ab work\nneeds aa\n\nunit b work"
        self.assert_said(Console(text), ("on ab 0", "+aa +ab -b"))
        text = "unit a work\nneeds c\nbars b\n\nunit b work\n\nunit c work\nbars d\n\nunit d work"
        self.assert_said(Console(text), ("on a 0", "+a -b +c -d"), ("off c 0", "-a -c"))

    def test_begun_and_ended(self):
        console = Console(TEXT)
        self.assert_said(
            console, ("on a 0", "+a +b +c -e"), ("ready", "start:b start:c"), ("begin b 1", "ok"),
            ("state b", "starting on"), ("good b 2", "ok"), ("state b", "on on"), ("begin c 2", "ok"),
            ("state c", "on on"), ("begin a 3", "ok"), ("bad a 4", "ok"), ("state a", "off later"), ("wake 8", "-"),
            ("wake 9", "a"), ("state a", "off on"), ("begin a 9", "ok"), ("good a 9", "ok"), ("died b 10", "ok"),
            ("state a", "on back"), ("state b", "off later"), ("ready", "stop:a"), ("begin a 10", "ok"),
            ("state a", "stopping back"), ("good a 10", "ok"), ("state a", "off back"), ("off b 11", "-a -b"),
            ("state b", "off off"))

    def test_ready_in_its_order(self):
        console = Console("unit a work\n\nunit b work\n\nunit c work\n\nunit d work")
        self.assert_said(console, ("ready", "-"), ("on c 0", "+c"), ("begin c 0", "ok"), ("off c 0", "-c"),
                         ("on d 0", "+d"), ("on b 0", "+b"), ("ready", "start:b start:d stop:c"))

    def test_wake_names(self):
        firsts = (("a", 9), ("b", 3), ("c", 3))
        text = "\n\n".join(f"unit {name} work\nrule {first} 2 64 5 100" for name, first in firsts)
        console = Console(text)
        for name in "abc":
            console.run([f"on {name} 1", f"begin {name} 1", f"bad {name} 1"])
        self.assert_said(console, ("wake 3", "-"), ("wake 12", "b c a"), ("wake 12", "-"))

    def test_knocks_and_kept(self):
        console = Console(TEXT)
        self.assert_said(console, ("on d 0", "+d"), ("begin d 0", "ok"), ("kept d", "0"), ("knock d 1", "kept"),
                         ("knock d 1", "kept"), ("kept d", "2"), ("kept a", "0"), ("state a", "off on"))
        console.run(["begin b 2", "good b 2", "begin c 2", "begin a 2", "good a 2"])
        self.assert_said(console, ("kept d", "0"), ("knock d 3", "handed"), ("kept d", "0"))
        self.assert_said(Console(HARD), ("on f 0", "+f"), ("begin f 0", "ok"), ("knock f 0", "missed"))

    def test_room_for_nine(self):
        console = Console(TEXT)
        console.run(["on d 0", "begin d 0", *["knock d 0"] * 9])
        self.assertEqual(console.say("kept d"), "9")
        self.assert_refused(Full, console, "knock d 0")

    def test_why(self):
        console = Console(HARD)
        self.assert_said(console, ("why a", "lack"), ("why b", "clash"), ("why d", "knot"), ("why c", "plan"),
                         ("why e", "plan"), ("why f", "plan"))
        console = Console("unit a work\nafter b\n\nunit b work\nafter a")
        self.assert_said(console, ("why a", "plan"), ("on b 0", "+b"), ("why a", "knot"), ("begin b 0", "ok"),
                         ("why a", "plan"))

    def test_rows(self):
        console = Console(TEXT)
        self.assert_said(console, ("rows", "0"), ("on a 1", "+a +b +c -e"), ("rows", "3"), ("begin b 1", "ok"),
                         ("rows", "4"), ("state a", "off on"), ("wake 1", "-"), ("rows", "4"))

    def test_ticks_at_their_bounds(self):
        console = Console(TEXT)
        self.assert_said(console, ("on e 0", "-a +e"), ("begin e 1000000", "ok"), ("wake 1000000", "-"))
        self.assert_refused(NoTick, console, "wake 999999")
        self.assert_refused(NoRow, console, "wake 1000001")

    def test_names_at_their_bounds(self):
        self.assert_said(Console("unit abcdefgh work"), ("on abcdefgh 0", "+abcdefgh"), ("state abcdefgh", "off on"))


class NoRows(ConsoleCase):
    def test_words_too_many_or_too_few_and_others(self):
        console = Console(TEXT)
        console.run(["on d 0", "begin d 0"])
        for row in STRANGE_ROWS:
            self.assert_refused(NoRow, console, row)

    def test_things_that_are_no_texts(self):
        console = Console(TEXT)
        for row in (*NO_TEXTS, ["ready"], ("ready",), ["on", "a", "1"], ("on", "a", 1), [["ready"]]):
            self.assert_refused(NoRow, console, row)

    def rows_of(self, form):
        for word, parts in FORMS.items():
            if form in parts:
                yield word, parts

    def test_numbers(self):
        console = Console(TEXT)
        for word, parts in self.rows_of("tick"):
            for number in NO_NUMBERS:
                row = f"{word} {parts}".replace("name", "d").replace("tick", number)
                self.assert_refused(NoRow, console, row)

    def test_names(self):
        console = Console(TEXT)
        for word, parts in self.rows_of("name"):
            for name in NO_WORDS:
                self.assert_refused(NoRow, console, f"{word} {parts}".replace("tick", "1").replace("name", name))

    def test_blanks_and_line_ends(self):
        console = Console(TEXT)
        for word, parts in FORMS.items():
            row = f"{word} {parts}".replace("name", "a").replace("tick", "1").strip()
            for spoilt in (" " + row, row + " ", row + "\n", "\n" + row, row + "  ", row + " \n",
                           row.replace(" ", "\n"), row.replace(" ", "  "), row.replace(" ", "  ", 1), row + " x",
                           row + " 1"):
                if spoilt != row:
                    self.assert_refused(NoRow, console, spoilt)

    def test_each_word_alone_and_with_more(self):
        console = Console(TEXT)
        for word, parts in FORMS.items():
            for many in range(5):
                if many != len(parts.split()):
                    for part in ("a", "1"):
                        self.assert_refused(NoRow, console, " ".join([word] + [part] * many))

    def test_no_row_ahead_of_all_others(self):
        console = Console(TEXT)
        console.say("wake 9")
        for row in ("on zz 01", "on ZZ 1", "begin a 1 1", "wake 01", "died zz -1", "knock a 1000001", "state ZZ"):
            self.assert_refused(NoRow, console, row)


class Refusals(ConsoleCase):
    def test_as_of_the_functions(self):
        console = Console(HARD)
        for kind, row in (
                (NoUnit, "on zz 1"), (NoUnit, "off zz 1"), (NoUnit, "begin zz 1"), (NoUnit, "good zz 1"),
                (NoUnit, "bad zz 1"), (NoUnit, "died zz 1"), (NoUnit, "knock zz 1"), (NoUnit, "state zz"),
                (NoUnit, "why zz"), (NoUnit, "kept zz"), (Lack, "on a 1"), (Clash, "on b 1"), (Knot, "on d 1"),
                (NotReady, "begin c 1"), (NotBegun, "good c 1"), (NotBegun, "bad c 1"), (NotOn, "died c 1"),
                (NoDoor, "knock c 1"), (NotOn, "knock f 1")):
            refusal = self.assert_refused(kind, console, row)
            if kind == NoUnit:
                self.assertEqual(refusal.name, "zz")
        console.say("wake 2")
        for row in ("on c 1", "off c 1", "begin zz 1", "good c 1", "bad c 1", "died c 1", "knock c 0", "wake 1"):
            self.assert_refused(NoTick, console, row)

    def test_a_refused_one_makes_the_last_tick_no_later(self):
        console = Console(HARD)
        self.assert_refused(Lack, console, "on a 9")
        self.assert_said(console, ("on c 1", "-b +c"))


class Runs(ConsoleCase):
    def test_the_answers(self):
        console = Console(TEXT)
        told = console.run(["on b 1", "ready", "begin b 1", "state b"])
        self.assertIs(type(told), list)
        self.assertEqual(told, ["+b", "start:b", "ok", "starting on"])
        self.assertEqual((console.runs, console.said), (1, 4))
        self.assertEqual(console.run([]), [])
        self.assertEqual((console.runs, console.said), (2, 4))
        self.assertEqual(console.run(["rows"], stop=True), ["2"])
        self.assertEqual(console.run(["rows"], stop=False), ["2"])
        self.assertEqual((console.runs, console.said), (4, 6))

    def test_say_alone_changes_neither_value(self):
        console = Console(TEXT)
        console.say("on a 1")
        self.assert_refused(NoRow, console, "nothing")
        self.assert_refused(NoUnit, console, "state zz")
        self.assertEqual((console.runs, console.said), (0, 0))
        console.run(["ready", "rows"])
        console.say("ready")
        self.assertEqual((console.runs, console.said), (1, 2))

    def test_a_refusal_at_each_place_goes_on_to_who_asked(self):
        for stop in ({}, {"stop": True}):
            for kind, refused in ((NoRow, "what"), (NoRow, None), (NoRow, ["ready"]), (NoUnit, "state zz"),
                                  (NotReady, "begin e 1"), (NoTick, "wake 0"), (NoDoor, "knock a 1")):
                rows = ["on b 1", "ready", "state b", "begin b 1"]
                for at in range(len(rows) + 1):
                    console = Console(TEXT)
                    console.say("wake 1")
                    with self.assertRaises(kind) as caught:
                        console.run([*rows[:at], refused, *rows[at:]], **stop)
                    self.assertIs(type(caught.exception), kind)
                    self.assertEqual((console.runs, console.said), (1, at))
                    states = ("off off", "off on", "off on", "off on", "starting on")
                    self.assertEqual(console.say("state b"), states[at])

    def test_a_refusal_at_each_place_where_stop_is_false(self):
        rows = ["on b 1", "ready", "begin b 1", "state b"]
        right = ["+b", "start:b", "ok", "starting on"]
        for refused in ("what", None, True, [], "state zz", "begin e 1", "wake 0", "knock a 1", "died a 1", "good a 1",
                        "knock d 1"):
            for at in range(len(rows) + 1):
                console = Console(TEXT)
                console.say("wake 1")
                self.assertEqual(console.run([*rows[:at], refused, *rows[at:]], stop=False),
                                 [*right[:at], "no", *right[at:]])
                self.assertEqual((console.runs, console.said), (1, 4))

    def test_each_kind_of_refusal_is_answered(self):
        console = Console(HARD)
        console.say("wake 1")
        rows = ["on a 1", "on b 1", "on d 1", "on zz 1", "wake 0", "begin a 1", "good a 1", "died a 1", "knock a 1",
                "knock f 1", "what"]
        self.assertEqual(console.run(rows, stop=False), ["no"] * 11)
        self.assertEqual((console.runs, console.said), (1, 0))
        console.run(["on f 1", "begin f 1", "knock f 1"])
        self.assertEqual((console.runs, console.said), (2, 3))
        console = Console(TEXT)
        console.run(["on d 0", "begin d 0"])
        self.assertEqual(console.run(["knock d 0"] * 10, stop=False), ["kept"] * 9 + ["no"])
        self.assertEqual((console.runs, console.said), (2, 11))

    def test_all_refused(self):
        console = Console(TEXT)
        self.assertEqual(console.run(["x", None, 3], stop=False), ["no", "no", "no"])
        self.assertEqual((console.runs, console.said), (1, 0))
        with self.assertRaises(NoRow):
            console.run(["x", None, 3])
        self.assertEqual((console.runs, console.said), (2, 0))

    def test_sixty_rows(self):
        console = Console(TEXT)
        self.assertEqual(console.run(["ready", None] * 30, stop=False), ["-", "no"] * 30)
        self.assertEqual((console.runs, console.said), (1, 30))

    def test_the_list_handed_in_and_the_one_told(self):
        console = Console(TEXT)
        rows = ["ready", "what", "rows"]
        told = console.run(rows, stop=False)
        self.assertEqual(rows, ["ready", "what", "rows"])
        told.clear()
        self.assertEqual(console.run(rows=rows, stop=False), ["-", "no", "0"])

    def test_refusals_are_of_their_kinds(self):
        for kind in (NoRow, NoText, NoTick, NotReady, NotBegun, NotOn, NoDoor, Full, Lack, Clash, Knot):
            self.assertTrue(issubclass(kind, UnitError))
        self.assertFalse(issubclass(NoUnit, UnitError))


if __name__ == "__main__":
    unittest.main()
