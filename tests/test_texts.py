"""Texts of units and shelves: promise 7, and what 2 and 3 say of them."""

import inspect
import itertools
import unittest
from random import Random

from tests.things import NO_TEXTS, SIXTEEN, fields, shelf_fields, some_shelves
from unitwants.errors import NoShelf, NoText, NoUnit, UnitError
from unitwants.rules import Rule
from unitwants.shelves import Shelf
from unitwants.texts import read_shelf, read_unit, show_shelf, show_unit
from unitwants.units import Unit

EIGHT = ("b", "a", "zz", "abcdefgh", "q", "c", "wxyz", "bb")
FULL = Unit("abc", kind="door", needs=("a", "b"), wants=("z", "c"), bars=("d",), after=("f", "a", "e"), opens="g",
            rule=Rule())
FULL_LINES = ("unit abc door", "needs a b", "wants z c", "bars d", "after f a e", "opens g", "rule 1 2 64 5 100")
FULL_TEXT = "\n".join(FULL_LINES)
LISTS = ("needs", "wants", "bars", "after")
SIGNS = [chr(at) for at in range(32, 127)] + ["\n", "\t", "\r"]

REFUSED_UNITS = (
    # no unit at all
    "", " ", "\n", "\n\n", "unit", "unit ", "unit a", "unit a ", "abc", "a work", "unit work", "work a unit",
    "Unit a work", "UNIT a work", "unit: a work", "units a work", "needs a", "rule 1 2 64 5 100",
    # blanks and line ends in the first line
    " unit a work", "unit  a work", "unit a  work", "unit a work ", "unit\ta\twork", "unit a\twork", "unit\na\nwork",
    "unit a work\n", "\nunit a work", "unit a work\n\n", "unit a work\r", "unit a work\n ", "unit a work x",
    "unit a work work",
    # kinds
    "unit a Work", "unit a goals", "unit a none", "unit a wor", "unit a WORK", "unit a 1", "unit a unit",
    # names
    "unit abcdefghi work", "unit A work", "unit a1 work", "unit a-b work", "unit a_b work", "unit 1 work",
    "unit ~ work", "unit aB work", "unit a. work", "unit {a} work",
    # lines
    "unit a work\nneeds", "unit a work\nneeds ", "unit a work\nneeds  b", "unit a work\nneeds b ",
    "unit a work\n needs b", "unit a work\nneeds b  c", "unit a work\nneeds b,c", "unit a work\nneeds\tb",
    "unit a work\nneeds b\n", "unit a work\n\nneeds b", "unit a work\nneeds b\n\nwants c", "unit a work\nNeeds b",
    "unit a work\nneed b", "unit a work\nb", "unit a work needs b", "unit a work\nneeds: b", "unit a work\nkind goal",
    "unit a work\nunit b work", "unit a work\nname a",
    "unit a goal\nwants", "unit a goal\nwants ", "unit a goal\nbars", "unit a goal\nbars ", "unit a goal\nafter",
    "unit a goal\nafter ", "unit a goal\nrule", "unit a goal\nrule ",
    # opens
    "unit a door", "unit a door\nneeds b", "unit a door\nopens", "unit a door\nopens ", "unit a door\nopens a",
    "unit a door\nopens b c", "unit a door\nopens b b", "unit a door\nopens  b", "unit a door\nopens b ",
    "unit a door\nopens B", "unit a door\nopens abcdefghi", "unit a door\nopens None", "unit a work\nopens b",
    "unit a goal\nopens b", "unit a door\nopens b\nopens b", "unit a door\nopens b\nopens c",
    "unit a door\nopens b\nneeds c", "unit a door\nrule 1 2 64 5 100\nopens b", "unit a door\nrule 1 2 64 5 100",
    "unit a work\nopens", "unit a work\nopens ",
)
REFUSED_RULES = (
    "", "1", "1 2 64 5", "1 2 64 5 100 7", "1 2 64 5 100 ", " 1 2 64 5 100", "1  2 64 5 100", "1,2,64,5,100",
    "1 2 64 5 a", "a 2 64 5 100", "1 2 x 5 100", "01 2 64 5 100", "1 02 64 5 100", "1 2 064 5 100", "1 2 64 05 100",
    "1 2 64 5 0100", "1 2 64 00 100", "1 2 64 5 00", "+1 2 64 5 100", "1 +2 64 5 100", "1 2 64 +5 100",
    "1 2 64 5 +100", "-1 2 64 5 100", "1 -2 64 5 100", "1 2 -64 5 100", "1 2 64 -5 100", "1 2 64 -0 100",
    "1 2 64 5 -1", "0 2 64 5 100", "1001 2 64 5 100", "1 0 64 5 100", "1 11 64 5 100", "1 2 0 5 100",
    "1 2 1000001 5 100", "1 2 64 21 100", "1 2 64 5 1000001", "1 2 64 5 10000000", "1 2 64 5 1_0", "1_0 2 64 5 100",
    "1.0 2 64 5 100", "1 2 64 5 1e3", "0x1 2 64 5 100", "1 2 64 5 None", "True 2 64 5 100", "Rule(1, 2, 64, 5, 100)",
    "1 2 64 5 100\n", "1 2 64 5 100\nrule 1 2 64 5 100", "1 2 64 5 " + "9" * 60, "1 2 64 5 " + "1" * 1900,
    "1 2 64 5 " + "1" * 5000, "0" * 5000 + "1 2 64 5 100", "1 2\n64 5 100")


class TextCase(unittest.TestCase):
    def assert_no_text(self, read, thing):
        with self.assertRaises(NoText, msg=repr(thing)) as caught:
            read(thing)
        self.assertNotIsInstance(caught.exception, (NoShelf, NoUnit))

    def assert_same_unit(self, unit, text):
        self.assertEqual(show_unit(unit), text)
        self.assertEqual(read_unit(text), unit)
        self.assertEqual(fields(read_unit(text)), fields(unit))
        self.assertEqual(show_unit(read_unit(text)), text)

    def assert_same_shelf(self, shelf, text):
        self.assertEqual(show_shelf(shelf), text)
        self.assertIsInstance(read_shelf(text), Shelf)
        self.assertEqual(shelf_fields(read_shelf(text)), shelf_fields(shelf))
        self.assertEqual(show_shelf(read_shelf(text)), text)


class Units(TextCase):
    def test_the_first_line_alone(self):
        self.assert_same_unit(Unit("a"), "unit a work")
        self.assert_same_unit(Unit("abcdefgh", kind="goal"), "unit abcdefgh goal")

    def test_all_lines(self):
        self.assert_same_unit(FULL, FULL_TEXT)

    def test_a_door_has_two_lines_at_least(self):
        self.assert_same_unit(Unit("gate", kind="door", opens="b"), "unit gate door\nopens b")

    def test_each_choice_of_lines(self):
        places = [at for at in range(1, len(FULL_LINES)) if at != 5]
        for many in range(len(places) + 1):
            for chosen in itertools.combinations(places, many):
                for kind in ("work", "goal", "door"):
                    there = sorted([*chosen, 5]) if kind == "door" else chosen
                    words = [FULL_LINES[at].split(" ")[0] for at in there]
                    told = {word: getattr(FULL, word) for word in words}
                    text = "\n".join(["unit abc " + kind, *[FULL_LINES[at] for at in there]])
                    self.assert_same_unit(Unit("abc", kind=kind, **told), text)

    def test_one_and_eight_names_in_their_order(self):
        for word in LISTS:
            self.assert_same_unit(Unit("abc", **{word: ("x",)}), "unit abc work\n" + word + " x")
            self.assert_same_unit(Unit("abc", **{word: EIGHT}), "unit abc work\n" + word + " " + " ".join(EIGHT))
            self.assert_same_unit(Unit("abc", **{word: EIGHT[::-1]}),
                                  "unit abc work\n" + word + " " + " ".join(EIGHT[::-1]))

    def test_a_name_in_several_lists(self):
        unit = Unit("abc", kind="door", opens="x", **{word: ("x", "y") for word in LISTS})
        self.assert_same_unit(unit, "unit abc door\nneeds x y\nwants x y\nbars x y\nafter x y\nopens x")

    def test_names_that_are_words_of_the_lines(self):
        self.assert_same_unit(Unit("unit", needs=("needs", "work", "rule")), "unit unit work\nneeds needs work rule")
        self.assert_same_unit(Unit("opens", kind="door", opens="unit"), "unit opens door\nopens unit")
        self.assert_same_unit(Unit("work", kind="goal", wants=("goal",)), "unit work goal\nwants goal")

    def test_rules_at_their_bounds(self):
        for numbers in itertools.product((1, 1000), (1, 10), (1, 10 ** 6), (0, 20), (0, 10 ** 6)):
            rule = Rule(**dict(zip(("first", "times", "top", "burst", "span"), numbers)))
            for kind in ("work", "goal"):
                self.assert_same_unit(Unit("a", kind=kind, rule=rule),
                                      "unit a " + kind + "\nrule " + " ".join(map(str, numbers)))

    def test_numbers_that_are_read_are_whole_numbers(self):
        rule = read_unit("unit a work\nrule 10 9 100 0 0").rule
        self.assertEqual(repr(rule), "Rule(10, 9, 100, 0, 0)")
        self.assertEqual({type(number) for number in vars(rule).values()}, {int})

    def test_lists_that_are_read_are_tuples(self):
        unit = read_unit("unit a work\nneeds b")
        self.assertEqual([type(getattr(unit, word)) for word in LISTS], [tuple] * 4)
        self.assertIsNone(unit.opens)
        self.assertIsNone(unit.rule)

    def test_by_name(self):
        self.assertEqual(show_unit(unit=Unit("a")), "unit a work")
        self.assertEqual(read_unit(text="unit a work"), Unit("a"))
        for function, name in ((show_unit, "unit"), (read_unit, "text"), (show_shelf, "shelf"), (read_shelf, "text")):
            self.assertEqual(list(inspect.signature(function).parameters), [name])


class RefusedUnits(TextCase):
    def test_things_that_are_no_texts(self):
        for thing in NO_TEXTS:
            self.assert_no_text(read_unit, thing)

    def test_the_refusal_is_one_of_ours(self):
        with self.assertRaises(UnitError):
            read_unit("unit")

    def test_texts(self):
        for text in REFUSED_UNITS:
            self.assert_no_text(read_unit, text)

    def test_rules(self):
        for numbers in REFUSED_RULES:
            self.assert_no_text(read_unit, "unit a work\nrule " + numbers)
            self.assert_no_text(read_unit, "unit a door\nopens b\nrule " + numbers)

    def test_lines_in_another_order(self):
        for places in itertools.permutations(range(1, 7), 2):
            if places != tuple(sorted(places)):
                lines = ["unit abc door", *[FULL_LINES[at] for at in places]]
                self.assert_no_text(read_unit, "\n".join(lines))
        for lines in itertools.permutations(FULL_LINES):
            if lines != FULL_LINES:
                self.assert_no_text(read_unit, "\n".join(lines))

    def test_a_line_twice(self):
        for at in range(len(FULL_LINES)):
            lines = list(FULL_LINES)
            self.assert_no_text(read_unit, "\n".join(lines[:at] + [lines[at]] + lines[at:]))
            self.assert_no_text(read_unit, "\n".join(lines + [lines[at]]))
        self.assert_no_text(read_unit, "unit a work\nneeds b\nneeds c")

    def test_a_line_with_nothing_behind_its_word(self):
        for at in range(1, len(FULL_LINES)):
            for end in ("", " ", "  "):
                lines = list(FULL_LINES)
                lines[at] = lines[at].split(" ")[0] + end
                self.assert_no_text(read_unit, "\n".join(lines))

    def test_blanks_and_empty_lines(self):
        for at, line in enumerate(FULL_LINES):
            for wrong in (line.replace(" ", "  ", 1), line + " ", " " + line, line + "\n", "\n" + line,
                          line.replace(" ", "\t", 1), line.replace(" ", "", 1), line.replace(" ", "\n", 1),
                          line + "\r", line.upper(), line.title()):
                lines = list(FULL_LINES)
                lines[at] = wrong
                self.assert_no_text(read_unit, "\n".join(lines))

    def test_lists(self):
        for word in LISTS:
            for names in ("b b", "b c b", "abc", "b abc", "abc b", "B", "b1", "b C", "abcdefghi", "b,", "b -",
                          " ".join(EIGHT + ("nine",)), " ".join(EIGHT[:7] + ("b",)), " ".join(EIGHT + ("abc",))):
                self.assert_no_text(read_unit, "unit abc work\n" + word + " " + names)

    def test_shelves_are_no_units(self):
        self.assert_no_text(read_unit, "unit a work\n\nunit b work")

    def test_one_sign_put_otherwise(self):
        """Whatever is read is written again as the same text, whichever sign is another one."""
        read = 0
        for at in range(len(FULL_TEXT)):
            for sign in SIGNS:
                for text in (FULL_TEXT[:at] + sign + FULL_TEXT[at + 1:], FULL_TEXT[:at] + sign + FULL_TEXT[at:]):
                    read += self.read_or_refused(text)
        for at in range(len(FULL_TEXT)):
            read += self.read_or_refused(FULL_TEXT[:at] + FULL_TEXT[at + 1:])
        self.assertGreater(read, 500)

    def read_or_refused(self, text):
        try:
            unit = read_unit(text)
        except NoText:
            return 0
        self.assertEqual(show_unit(unit), text)
        self.assert_within_bounds(unit)
        return 1

    def assert_within_bounds(self, unit):
        self.assertRegex(unit.name, r"\A[a-z]{1,8}\Z")
        self.assertIn(unit.kind, ("work", "goal", "door"))
        self.assertEqual(unit.opens is None, unit.kind != "door")
        for names in (unit.needs, unit.wants, unit.bars, unit.after, () if unit.opens is None else (unit.opens,)):
            self.assertLessEqual(len(names), 8)
            self.assertEqual(len(set(names)), len(names))
            self.assertNotIn(unit.name, names)
            for name in names:
                self.assertRegex(name, r"\A[a-z]{1,8}\Z")
        if unit.rule is not None:
            self.assertTrue(1 <= unit.rule.first <= 1000 and 1 <= unit.rule.times <= 10)
            self.assertTrue(1 <= unit.rule.top <= 10 ** 6 and 0 <= unit.rule.burst <= 20)
            self.assertTrue(0 <= unit.rule.span <= 10 ** 6)

    def test_words_at_random(self):
        source = Random(7)
        words = ("unit", "a", "b", "abc", "work", "goal", "door", "needs", "wants", "bars", "after", "opens", "rule",
                 "1", "0", "7", "2 3 4 5", "")
        for turn in range(4000):
            lines = [" ".join(source.choices(words, k=source.randint(1, 3))) for line in range(source.randint(1, 3))]
            self.read_or_refused("\n".join(["unit a work", *lines]))
            self.read_or_refused("\n".join(lines))


class Shelves(TextCase):
    def test_none(self):
        self.assert_same_shelf(Shelf(), "")
        self.assertEqual(len(read_shelf("")), 0)

    def test_one(self):
        self.assert_same_shelf(Shelf([FULL]), FULL_TEXT)
        self.assert_same_shelf(Shelf([Unit("a")]), "unit a work")

    def test_two_by_their_names(self):
        units = [FULL, Unit("b", kind="goal", needs=("abc",)), Unit("aa")]
        text = "unit aa work\n\n" + FULL_TEXT + "\n\nunit b goal\nneeds abc"
        for order in itertools.permutations(units):
            self.assert_same_shelf(Shelf(list(order)), text)

    def test_sixteen(self):
        text = "\n\n".join(["unit " + name + " work" for name in sorted(SIXTEEN)])
        self.assert_same_shelf(Shelf([Unit(name) for name in SIXTEEN]), text)

    def test_sixteen_as_great_as_they_are(self):
        units = []
        for name in SIXTEEN:
            others = tuple([other for other in SIXTEEN if other != name][:8])
            units.append(Unit(name, kind="door", needs=others, wants=others, bars=others, after=others,
                              opens=others[0], rule=Rule(first=1000, times=10, top=10 ** 6, burst=20, span=10 ** 6)))
        shelf = Shelf(units)
        self.assert_same_shelf(shelf, "\n\n".join([show_unit(shelf.unit(name)) for name in shelf.names()]))

    def test_many(self):
        for shelf in some_shelves(7, 150, most=5):
            text = show_shelf(shelf)
            self.assert_same_shelf(shelf, text)
            parts = text.split("\n\n")
            self.assertEqual([read_unit(part).name for part in parts], shelf.names())

    def test_by_name(self):
        self.assertEqual(show_shelf(shelf=Shelf([Unit("a")])), "unit a work")
        self.assertEqual(read_shelf(text="unit a work").names(), ["a"])

    def test_writing_changes_nothing(self):
        shelf = Shelf([FULL, Unit("b")])
        before = shelf_fields(shelf)
        self.assertEqual(show_shelf(shelf), show_shelf(shelf))
        self.assertEqual(shelf_fields(shelf), before)


class RefusedShelves(TextCase):
    def test_things_that_are_no_texts(self):
        for thing in NO_TEXTS:
            self.assert_no_text(read_shelf, thing)

    def test_texts_of_units_that_are_refused(self):
        for text in REFUSED_UNITS:
            if text:
                self.assert_no_text(read_shelf, text)
                self.assert_no_text(read_shelf, text + "\n\nunit zzz work")
                self.assert_no_text(read_shelf, "unit aaa work\n\n" + text)

    def test_an_empty_line_too_much_or_too_few(self):
        one, other = "unit a work", "unit b work\nneeds a"
        for between in ("", "\n", "\n\n\n", "\n\n\n\n", "\n \n", " \n\n", "\n\n ", "\n\n\n\n\n", "\r\n\r\n"):
            self.assert_no_text(read_shelf, one + between + other)
        self.assertEqual(read_shelf(one + "\n\n" + other).names(), ["a", "b"])

    def test_line_ends_at_the_end_and_ahead(self):
        for text in ("", "unit a work", "unit a work\n\nunit b work"):
            for ends in ("\n", "\n\n", "\n\n\n", " ", "\r"):
                self.assert_no_text(read_shelf, text + ends)
                self.assert_no_text(read_shelf, ends + text)

    def test_units_out_of_order(self):
        for names in itertools.permutations(("a", "ab", "b", "ba")):
            text = "\n\n".join(["unit " + name + " work" for name in names])
            if names == ("a", "ab", "b", "ba"):
                self.assertEqual(read_shelf(text).names(), list(names))
            else:
                self.assert_no_text(read_shelf, text)

    def test_a_name_twice(self):
        for names in (("a", "a"), ("a", "a", "b"), ("a", "b", "b"), ("a", "b", "a")):
            self.assert_no_text(read_shelf, "\n\n".join(["unit " + name + " work" for name in names]))
        self.assert_no_text(read_shelf, "unit a work\n\nunit a goal")

    def test_seventeen(self):
        names = sorted(SIXTEEN + ("new",))
        self.assert_no_text(read_shelf, "\n\n".join(["unit " + name + " work" for name in names]))
        twice = sorted(SIXTEEN + ("q",))
        self.assert_no_text(read_shelf, "\n\n".join(["unit " + name + " work" for name in twice]))
        many = sorted("u" + first + second for first in "abcdefgh" for second in "abcdefgh")
        self.assert_no_text(read_shelf, "\n\n".join(["unit " + name + " work" for name in many]))

    def test_one_sign_put_otherwise(self):
        text = "unit a work\n\nunit b door\nopens a"
        for at in range(len(text)):
            for sign in SIGNS + [""]:
                for changed in (text[:at] + sign + text[at + 1:], text[:at] + sign + text[at:]):
                    try:
                        shelf = read_shelf(changed)
                    except NoText:
                        continue
                    self.assertEqual(show_shelf(shelf), changed)


if __name__ == "__main__":
    unittest.main()
