"""Shelves: promise 6, and 2 as far as it speaks of them."""

import inspect
import itertools
import unittest

from tests.things import NO_NAMES, SIXTEEN, fields, shelf_fields, some_shelves
from unitwants import shelves
from unitwants.errors import NoShelf, NoUnit, UnitError
from unitwants.rules import Rule
from unitwants.shelves import MOST, Shelf
from unitwants.units import Unit

DOORS = ("unit", "needing", "barred", "waited")


def units_of(names):
    return [Unit(name) for name in names]


def refused_name(made):
    """The field of the NoShelf with which making it is refused."""
    try:
        made()
    except NoShelf as refusal:
        return refusal.name
    raise AssertionError("not refused")


class Making(unittest.TestCase):
    def assert_has(self, shelf, names):
        self.assertEqual(len(shelf), len(names))
        self.assertEqual(shelf.names(), sorted(names))
        for name in names:
            self.assertIs(shelf.has(name), True)
            self.assertEqual(shelf.unit(name), Unit(name))

    def test_most(self):
        self.assertEqual(MOST, 16)
        self.assertIs(type(MOST), int)
        self.assertIn("MOST", vars(shelves))

    def test_none_one_and_sixteen_as_a_list_and_as_a_tuple(self):
        for names in ((), ("abc",), SIXTEEN):
            self.assert_has(Shelf(units_of(names)), names)
            self.assert_has(Shelf(tuple(units_of(names))), names)
            self.assert_has(Shelf(units=units_of(names)), names)
        self.assert_has(Shelf(), ())

    def test_in_any_order(self):
        for names in itertools.permutations(("b", "c", "a", "ab")):
            self.assert_has(Shelf(units_of(names)), names)
        self.assert_has(Shelf(units_of(sorted(SIXTEEN))), SIXTEEN)
        self.assert_has(Shelf(units_of(sorted(SIXTEEN, reverse=True))), SIXTEEN)

    def test_a_name_twice(self):
        for names, twice in ((("a", "a"), "a"), (("a", "b", "a"), "a"), (("a", "b", "b"), "b"),
                             (("c", "b", "a", "b", "a"), "b"), (("a", "b", "c", "c", "b", "a"), "c")):
            for kind in (list, tuple):
                self.assertEqual(refused_name(lambda: Shelf(kind(units_of(names)))), twice)

    def test_a_name_twice_at_each_two_places(self):
        for first, second in itertools.combinations(range(16), 2):
            names = list(SIXTEEN)
            names[second] = names[first]
            self.assertEqual(refused_name(lambda: Shelf(units_of(names))), SIXTEEN[first])

    def test_a_name_twice_of_unlike_units_and_of_the_same_one(self):
        same = Unit("a")
        self.assertEqual(refused_name(lambda: Shelf([same, same])), "a")
        self.assertEqual(refused_name(lambda: Shelf([same, Unit("a", kind="goal", needs=("b",))])), "a")

    def test_a_seventeenth(self):
        for extra in ("new", "aaa", "zzzzzzzz"):
            self.assertEqual(refused_name(lambda: Shelf(units_of(SIXTEEN + (extra,)))), extra)
            self.assertEqual(refused_name(lambda: Shelf(tuple(units_of(SIXTEEN + (extra, "more", "yet"))))), extra)
            self.assertEqual(refused_name(lambda: Shelf(units_of((extra,) + SIXTEEN))), SIXTEEN[-1])

    def test_both_at_once(self):
        ahead = list(SIXTEEN)
        ahead[9] = SIXTEEN[4]
        self.assertEqual(refused_name(lambda: Shelf(units_of(ahead + ["new", "more"]))), SIXTEEN[4])
        self.assertEqual(refused_name(lambda: Shelf(units_of(SIXTEEN + ("new", "q")))), "new")
        self.assertEqual(refused_name(lambda: Shelf(units_of(SIXTEEN + ("new", "new")))), "new")
        self.assertEqual(refused_name(lambda: Shelf(units_of(SIXTEEN + ("q", "new")))), "q")
        # The seventeenth in the list is not the seventeenth on the shelf where one ahead stands there twice.
        self.assertEqual(refused_name(lambda: Shelf(units_of(SIXTEEN[:15] + ("q", "y", "new")))), "q")

    def test_the_refusal_is_no_shelf_itself(self):
        for names in (("a", "a"), SIXTEEN + ("new",)):
            with self.assertRaises(NoShelf) as caught:
                Shelf(units_of(names))
            self.assertNotIsInstance(caught.exception, (NoUnit, UnitError))

    def test_a_list_that_is_changed_behind_the_call(self):
        units = units_of(("a", "b"))
        shelf = Shelf(units)
        units.append(Unit("c", needs=("a",)))
        units[0] = Unit("a", needs=("b",))
        self.assert_has(shelf, ("a", "b"))
        self.assertEqual([shelf.needing("a"), shelf.needing("b")], [[], []])
        units.clear()
        self.assert_has(shelf, ("a", "b"))

    def test_the_list_stays_as_it_is(self):
        units = units_of(SIXTEEN)
        kept = list(units)
        shelf = Shelf(units)
        shelf_fields(shelf)
        self.assertEqual(units, kept)
        many = units_of(SIXTEEN + ("new",))
        refused_name(lambda: Shelf(many))
        self.assertEqual(many, units_of(SIXTEEN + ("new",)))

    def test_two_shelves_share_nothing(self):
        one = Shelf()
        other = Shelf(units_of(("a",)))
        self.assertEqual([len(one), len(other), len(Shelf())], [0, 1, 0])

    def test_names_of_the_arguments(self):
        self.assertEqual(str(inspect.signature(Shelf)), "(units=())")
        for name in ("has", "unit", "needing", "barred", "waited"):
            self.assertEqual(list(inspect.signature(getattr(Shelf, name)).parameters), ["self", "name"])
        self.assertEqual(list(inspect.signature(Shelf.with_unit).parameters), ["self", "unit"])


class Asking(unittest.TestCase):
    def test_names(self):
        shelf = Shelf(units_of(SIXTEEN))
        self.assertEqual(shelf.names(), ["a", "aa", "abcdefgh", "b", "ba", "c", "d", "e", "m", "n", "o", "p", "q",
                                         "wxyz", "z", "zz"])
        self.assertEqual(Shelf().names(), [])

    def test_has(self):
        shelf = Shelf([Unit("a", needs=("gone",), wants=("gone",), bars=("gone",), after=("gone",)),
                       Unit("b", kind="door", opens="gone")])
        self.assertIs(shelf.has("a"), True)
        self.assertIs(shelf.has(name="b"), True)
        self.assertIs(shelf.has("gone"), False)
        self.assertIs(shelf.has("c"), False)
        self.assertIs(shelf.has("".join(["", "a"])), True)

    def test_has_of_any_thing(self):
        for shelf in (Shelf(), Shelf(units_of(("a", "b"))), Shelf(units_of(SIXTEEN))):
            for thing in NO_NAMES:
                self.assertIs(shelf.has(thing), False, thing)

    def test_unit(self):
        unit = Unit("abc", kind="door", needs=("b", "gone"), wants=("c", "b"), bars=("d",), after=("b",), opens="b",
                    rule=Rule(first=7))
        shelf = Shelf([Unit("b"), unit])
        self.assertEqual(fields(shelf.unit("abc")), fields(unit))
        self.assertEqual(shelf.unit(name="abc"), unit)
        self.assertEqual(shelf.unit("b"), Unit("b"))

    def test_needing(self):
        shelf = Shelf([Unit("z", needs=("a", "gone")), Unit("c", needs=("z", "a")), Unit("a", needs=("gone",)),
                       Unit("b", wants=("a",), bars=("c",), after=("a", "z")), Unit("d", kind="door", opens="a")])
        self.assertEqual(shelf.needing("a"), ["c", "z"])
        self.assertEqual(shelf.needing(name="z"), ["c"])
        for name in ("b", "c", "d"):
            self.assertEqual(shelf.needing(name), [])

    def test_needing_in_a_ring(self):
        shelf = Shelf([Unit("b", needs=("a",)), Unit("a", needs=("b",))])
        self.assertEqual([shelf.needing("a"), shelf.needing("b")], [["b"], ["a"]])

    def test_barred_from_either_side_and_from_both(self):
        shelf = Shelf([Unit("c", bars=("d", "a", "gone")), Unit("a", bars=("e",)), Unit("b", bars=("c", "e")),
                       Unit("d", bars=("c",)), Unit("e"), Unit("f", needs=("a",), wants=("b",), after=("c",))])
        self.assertEqual(shelf.barred("c"), ["a", "b", "d"])
        self.assertEqual(shelf.barred("d"), ["c"])
        self.assertEqual(shelf.barred("a"), ["c", "e"])
        self.assertEqual(shelf.barred("b"), ["c", "e"])
        self.assertEqual(shelf.barred(name="e"), ["a", "b"])
        self.assertEqual(shelf.barred("f"), [])

    def test_waited(self):
        shelf = Shelf([
            Unit("w", needs=("n", "b", "gone"), after=("m", "b", "lost"), wants=("c",), bars=("d",)),
            Unit("z", kind="door", opens="w"), Unit("a", kind="door", opens="w", after=("w",)),
            Unit("b"), Unit("c"), Unit("d"), Unit("m", after=("n",)), Unit("n"), Unit("o", kind="door", opens="gone")])
        self.assertEqual(shelf.waited("w"), ["a", "b", "m", "n", "z"])
        self.assertEqual(shelf.waited(name="a"), ["w"])
        self.assertEqual(shelf.waited("m"), ["n"])
        for name in ("b", "c", "d", "n", "o", "z"):
            self.assertEqual(shelf.waited(name), [], name)

    def test_a_door_that_is_needed_and_opens_stands_there_once(self):
        shelf = Shelf([Unit("w", needs=("gate",), after=("gate",)), Unit("gate", kind="door", opens="w")])
        self.assertEqual(shelf.waited("w"), ["gate"])
        self.assertEqual(shelf.waited("gate"), [])

    def test_what_is_on_no_shelf_is_told_nowhere(self):
        unit = Unit("a", kind="door", needs=("b",), wants=("c",), bars=("d",), after=("e",), opens="f")
        shelf = Shelf([unit])
        self.assertEqual([shelf.needing("a"), shelf.barred("a"), shelf.waited("a")], [[], [], []])
        for name in "bcdef":
            self.assertIs(shelf.has(name), False)

    def test_of_many_shelves(self):
        for shelf in some_shelves(6, 200, most=4):
            names = shelf.names()
            units = {name: shelf.unit(name) for name in names}
            for name in names:
                self.assertEqual(shelf.needing(name), sorted(u.name for u in units.values() if name in u.needs))
                either = {u.name for u in units.values() if name in u.bars} | set(units[name].bars) & set(names)
                self.assertEqual(shelf.barred(name), sorted(either))
                for_whom = set(units[name].needs + units[name].after) & set(names)
                for_whom |= {u.name for u in units.values() if u.kind == "door" and u.opens == name}
                self.assertEqual(shelf.waited(name), sorted(for_whom))

    def test_no_unit(self):
        for shelf in (Shelf(), Shelf([Unit("a", needs=("gone",)), Unit("b")]), Shelf(units_of(SIXTEEN))):
            for door in DOORS:
                for thing in NO_NAMES + ("gone", "y"):
                    with self.assertRaises(NoUnit) as caught:
                        getattr(shelf, door)(thing)
                    self.assertEqual(repr(caught.exception.name), repr(thing))
                    self.assertIs(type(caught.exception.name), type(thing))

    def test_no_unit_of_a_thing_that_is_changed_behind(self):
        for door in DOORS:
            thing = ["a", ["b"]]
            with self.assertRaises(NoUnit) as caught:
                getattr(Shelf(), door)(name=thing)
            self.assertEqual(thing, ["a", ["b"]])
            thing[1].append("c")
            thing.clear()
            self.assertEqual(caught.exception.name, ["a", ["b"]])

    def test_lists_are_the_askers_own(self):
        shelf = Shelf([Unit("a", needs=("b",), bars=("c",), after=("c",)), Unit("b"), Unit("c", needs=("b",))])
        before = shelf_fields(shelf)
        asked = [lambda: shelf.names(), lambda: shelf.needing("b"), lambda: shelf.barred("c"),
                 lambda: shelf.waited("a"), lambda: shelf.needing("a")]
        for ask in asked:
            told = ask()
            right = list(told)
            self.assertIs(type(told), list)
            self.assertIsNot(ask(), told)
            told.append("zz")
            told.reverse()
            self.assertEqual(ask(), right)
            told.clear()
            self.assertEqual(ask(), right)
        self.assertEqual(shelf_fields(shelf), before)

    def test_a_told_list_stays_as_it_is(self):
        shelf = Shelf([Unit("a"), Unit("b", needs=("a",))])
        names, needing = shelf.names(), shelf.needing("a")
        shelf.with_unit(Unit("c", needs=("a",)))
        shelf.with_unit(Unit("b"))
        self.assertEqual((names, needing), (["a", "b"], ["b"]))

    def test_what_is_refused_changes_nothing(self):
        shelf = Shelf([Unit("a", needs=("gone",)), Unit("b")])
        before = shelf_fields(shelf)
        for door in DOORS:
            with self.assertRaises(NoUnit):
                getattr(shelf, door)("gone")
        self.assertEqual(shelf_fields(shelf), before)
        self.assertIs(shelf.has("gone"), False)


class WithUnit(unittest.TestCase):
    def test_a_new_name(self):
        old = Shelf([Unit("b", needs=("c",))])
        before = shelf_fields(old)
        new = old.with_unit(Unit("c", needs=("b",)))
        self.assertIsInstance(new, Shelf)
        self.assertEqual(new.names(), ["b", "c"])
        self.assertEqual([new.needing("b"), new.needing("c")], [["c"], ["b"]])
        self.assertEqual((len(new), len(old)), (2, 1))
        self.assertEqual(shelf_fields(old), before)
        self.assertIs(old.has("c"), False)

    def test_by_name_and_on_an_empty_shelf(self):
        old = Shelf()
        self.assertEqual(old.with_unit(unit=Unit("a")).names(), ["a"])
        self.assertEqual(old.names(), [])

    def test_the_place_of_one_that_is_there(self):
        old = Shelf([Unit("a", needs=("b",)), Unit("b"), Unit("c", bars=("a",))])
        before = shelf_fields(old)
        new = old.with_unit(Unit("a", kind="door", after=("b",), opens="c"))
        self.assertEqual(new.names(), ["a", "b", "c"])
        self.assertEqual(new.unit("a"), Unit("a", kind="door", after=("b",), opens="c"))
        self.assertEqual((new.needing("b"), new.waited("c"), new.barred("a")), ([], ["a"], ["c"]))
        self.assertEqual(shelf_fields(old), before)
        self.assertEqual(old.needing("b"), ["a"])

    def test_the_sixteenth_and_the_seventeenth(self):
        full = Shelf(units_of(SIXTEEN[:15])).with_unit(Unit(SIXTEEN[15]))
        self.assertEqual(full.names(), sorted(SIXTEEN))
        before = shelf_fields(full)
        for extra in ("new", "aaa", "zzzzzzzz"):
            self.assertEqual(refused_name(lambda: full.with_unit(Unit(extra))), extra)
        self.assertEqual(shelf_fields(full), before)

    def test_in_a_place_on_a_full_shelf(self):
        full = Shelf(units_of(SIXTEEN))
        for name in SIXTEEN:
            new = full.with_unit(Unit(name, kind="goal"))
            self.assertEqual((len(new), new.unit(name).kind, full.unit(name).kind), (16, "goal", "work"))
            self.assertEqual(new.names(), full.names())


if __name__ == "__main__":
    unittest.main()
