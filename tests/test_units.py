"""Units: promise 5."""

import inspect
import itertools
import unittest

from tests.equality import EqualityCase
from unitwants.rules import Rule
from unitwants.units import Unit

NAMES = ("name", "kind", "needs", "wants", "bars", "after", "opens", "rule")
LISTS = ("needs", "wants", "bars", "after")
DEFAULTS = {"kind": "work", "needs": (), "wants": (), "bars": (), "after": (), "opens": None, "rule": None}
EIGHT = ("b", "a", "zz", "abcdefgh", "q", "c", "wxyz", "bb")
FULL = {"kind": "door", "needs": ("a", "b"), "wants": ("c",), "bars": ("d", "e"), "after": ("f",), "opens": "g",
        "rule": Rule(first=2)}
# For each of the eight another worth than the one it has in FULL, all else alike.
CHANGED = {
    "name": ("abd", "a", "abcdefgh"), "kind": ("work", "goal"),
    "needs": ((), ("a",), ("b", "a"), ("a", "b", "c")), "wants": ((), ("d",), ("c", "d")),
    "bars": ((), ("e", "d"), ("d",)), "after": ((), ("g",), ("f", "a")),
    "opens": ("h", None), "rule": (None, Rule(), Rule(first=2, span=99)),
}


def eight(unit):
    return {name: getattr(unit, name) for name in NAMES}


def none_of_them(unit):
    """Things that are no units, some as near to this one as can be."""
    worths = [unit.name, unit.kind, unit.needs, unit.wants, unit.bars, unit.after, unit.opens, unit.rule]
    return [None, True, False, 0, 1, "", unit.name, repr(unit), tuple(worths), worths, (), [], eight(unit), Rule(),
            unit.rule, Unit, [unit], (unit,)]


class Making(unittest.TestCase):
    def test_each_left_out_but_the_name(self):
        for name in ("a", "z", "abc", "abcdefgh"):
            self.assertEqual(eight(Unit(name)), {"name": name, **DEFAULTS})

    def test_each_handed_in(self):
        self.assertEqual(eight(Unit("abc", **FULL)), {"name": "abc", **FULL})

    def test_one_handed_in_alone(self):
        for name in DEFAULTS:
            self.assertEqual(eight(Unit("abc", **{name: FULL[name]})), {"name": "abc", **DEFAULTS, name: FULL[name]})

    def test_one_left_out_alone(self):
        for name in DEFAULTS:
            told = {other: FULL[other] for other in FULL if other != name}
            self.assertEqual(eight(Unit("abc", **told)), {"name": "abc", **FULL, name: DEFAULTS[name]})

    def test_some_left_out(self):
        for many in range(len(DEFAULTS) + 1):
            for names in itertools.combinations(DEFAULTS, many):
                told = {name: FULL[name] for name in names}
                self.assertEqual(eight(Unit("abc", **told)), {"name": "abc", **DEFAULTS, **told})

    def test_the_three_kinds(self):
        self.assertEqual(Unit("a", kind="work").kind, "work")
        self.assertEqual(Unit("a", kind="goal").kind, "goal")
        door = Unit("a", kind="door", opens="b")
        self.assertEqual((door.kind, door.opens), ("door", "b"))

    def test_lists_of_none_and_of_eight(self):
        for name in LISTS:
            self.assertEqual(eight(Unit("abc", **{name: ()})), {"name": "abc", **DEFAULTS})
            self.assertEqual(eight(Unit("abc", **{name: EIGHT})), {"name": "abc", **DEFAULTS, name: EIGHT})
            self.assertIs(type(getattr(Unit("abc", **{name: EIGHT}), name)), tuple)
        unit = Unit("abc", **{name: EIGHT for name in LISTS})
        self.assertEqual([getattr(unit, name) for name in LISTS], [EIGHT] * 4)

    def test_a_name_in_several_lists(self):
        for names in itertools.combinations(LISTS, 2):
            unit = Unit("abc", **{name: ("x",) for name in names})
            self.assertEqual(eight(unit), {"name": "abc", **DEFAULTS, **{name: ("x",) for name in names}})
        unit = Unit("abc", kind="door", needs=("x", "y"), wants=("y", "x"), bars=("x",), after=("z", "x"), opens="x")
        self.assertEqual((unit.needs, unit.wants, unit.bars, unit.after, unit.opens),
                         (("x", "y"), ("y", "x"), ("x",), ("z", "x"), "x"))

    def test_the_order_of_the_names_is_kept(self):
        self.assertEqual(Unit("abc", wants=("c", "a", "b")).wants, ("c", "a", "b"))

    def test_rule(self):
        rule = Rule(first=3, burst=0)
        self.assertIs(Unit("abc", rule=rule).rule, rule)
        self.assertIsNone(Unit("abc", rule=None).rule)

    def test_names_in_any_order_and_the_name_by_name(self):
        told = {"name": "abc", **FULL}
        for shift in range(len(NAMES)):
            names = NAMES[shift:] + NAMES[:shift]
            self.assertEqual(eight(Unit(**{name: told[name] for name in names})), told)
        self.assertEqual(Unit(name="abc"), Unit("abc"))

    def test_all_but_the_name_by_name_alone(self):
        for places in ((), ("abc", "work"), ("abc", "work", (), (), (), (), None, None)):
            with self.assertRaises(TypeError):
                Unit(*places)

    def test_the_names_and_what_stands_behind_them(self):
        parameters = inspect.signature(Unit).parameters
        self.assertEqual(tuple(parameters), NAMES)
        self.assertIs(parameters["name"].default, inspect.Parameter.empty)
        self.assertIs(parameters["name"].kind, inspect.Parameter.POSITIONAL_OR_KEYWORD)
        self.assertEqual({name: parameters[name].default for name in DEFAULTS}, DEFAULTS)
        self.assertEqual({parameters[name].kind for name in DEFAULTS}, {inspect.Parameter.KEYWORD_ONLY})

    def test_fields_are_set_on_the_object(self):
        self.assertEqual({name: vars(Unit("abc"))[name] for name in NAMES}, {"name": "abc", **DEFAULTS})

    def test_somewhat_beyond_the_bounds_nothing_is_refused(self):
        nine = EIGHT + ("nine",)
        for name in LISTS:
            self.assertEqual(getattr(Unit("abc", **{name: nine}), name), nine)
        self.assertEqual(Unit("abcdefghi").name, "abcdefghi")

    def test_two_units_share_nothing(self):
        one = Unit("abc", needs=("a",))
        Unit("b", **FULL)
        self.assertEqual(eight(one), {"name": "abc", **DEFAULTS, "needs": ("a",)})

    def test_what_is_handed_in_is_unchanged(self):
        told = {"name": "abc", **FULL, "rule": Rule(first=2)}
        unit = Unit(**told)
        self.assertEqual(told, {"name": "abc", **FULL})
        repr(unit)
        self.assertTrue(unit == Unit("abc", **FULL))
        self.assertEqual(eight(unit), told)
        self.assertEqual(repr(told["rule"]), "Rule(2, 2, 64, 5, 100)")


class Equality(EqualityCase):
    def test_the_same_eight(self):
        self.assert_same(Unit("abc"), Unit("abc"))
        self.assert_same(Unit("abc"), Unit("abc", **DEFAULTS))
        self.assert_same(Unit("abc", **FULL), Unit("abc", **FULL))
        unit = Unit("abc", **FULL)
        self.assert_same(unit, unit)

    def test_the_same_eight_as_other_objects(self):
        def made():
            return Unit("".join(["ab", "c"]), kind="".join(["do", "or"]), needs=tuple(["x", "".join(["y", "z"])]),
                        wants=tuple(["b"]), bars=tuple(["c"]), after=tuple(["d"]), opens="".join(["e", "f"]),
                        rule=Rule(top=int("5000")))
        self.assert_same(made(), made())

    def test_unlike_in_one_alone(self):
        for name in NAMES:
            for worth in CHANGED[name]:
                told = {"name": "abc", **FULL, name: worth}
                self.assert_unlike(Unit("abc", **FULL), Unit(**told))

    def test_unlike_in_one_alone_from_the_least_unit(self):
        for name in DEFAULTS:
            self.assert_unlike(Unit("abc"), Unit("abc", **{name: FULL[name]}))
        self.assert_unlike(Unit("abc"), Unit("abd"))

    def test_the_same_names_in_another_list(self):
        for one, other in itertools.combinations(LISTS, 2):
            self.assert_unlike(Unit("abc", **{one: ("x",)}), Unit("abc", **{other: ("x",)}))

    def test_rules(self):
        self.assert_same(Unit("a", rule=Rule(burst=3)), Unit("a", rule=Rule(burst=3)))
        self.assert_same(Unit("a", rule=Rule()), Unit("a", rule=Rule(first=1)))
        self.assert_unlike(Unit("a", rule=Rule(burst=3)), Unit("a", rule=Rule(burst=4)))
        self.assert_unlike(Unit("a", rule=Rule()), Unit("a", rule=None))
        self.assert_unlike(Unit("a", rule=Rule()), Unit("a"))

    def test_beside_things_that_are_none(self):
        for unit in (Unit("abc"), Unit("abc", **FULL)):
            for thing in none_of_them(unit):
                self.assert_unlike(unit, thing)

    def test_by_in(self):
        unit = Unit("abc", **FULL)
        things = none_of_them(unit)
        self.assertFalse(unit in things)
        self.assertFalse(unit in tuple(things))
        for thing in things:
            self.assertFalse(thing in [unit])
            self.assertFalse(thing in (unit, Unit("b")))
        self.assertTrue(Unit("abc", **FULL) in things + [unit])
        self.assertTrue(unit in (None, Unit("abc", **FULL)))
        self.assertFalse(Unit("abc") in [unit])
        self.assertEqual([Unit("b"), None, unit].index(Unit("abc", **FULL)), 2)

    def test_within_other_things(self):
        self.assertEqual([Unit("a"), (Unit("b"),)], [Unit("a"), (Unit("b"),)])
        self.assertNotEqual([Unit("a")], [Unit("a", kind="goal")])


class Writing(unittest.TestCase):
    def test_as_the_document_writes_it(self):
        self.assertEqual(repr(Unit("abc")), "Unit(abc)")

    def test_others(self):
        for name in ("a", "z", "abcdefgh"):
            self.assertEqual(repr(Unit(name)), "Unit(" + name + ")")
        self.assertEqual(repr(Unit("abc", **FULL)), "Unit(abc)")

    def test_the_same_each_time_and_within_a_list(self):
        unit = Unit("abc", **FULL)
        self.assertEqual([repr(unit), repr(unit)], ["Unit(abc)", "Unit(abc)"])
        self.assertEqual(repr([unit, Unit("b")]), "[Unit(abc), Unit(b)]")


if __name__ == "__main__":
    unittest.main()
