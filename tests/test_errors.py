"""The refusals: base classes, fields, and lists that are shared with nobody."""

import unittest

from unitwants import errors
from unitwants.errors import (
    Clash, Full, Knot, Lack, NoDoor, NoRow, NoShelf, NotBegun, NoText, NoTick, NotOn, NotReady, NoUnit, Running,
    UnitError)

WITHOUT_FIELDS = (NoTick, NotReady, NotBegun, NotOn, Running, NoDoor, Full, NoText, NoRow)
WITH_FIELDS = (Lack, Clash, Knot)
UNDER_NONE = (NoUnit, NoShelf)
ALL = (UnitError,) + WITHOUT_FIELDS + WITH_FIELDS + UNDER_NONE


class BaseClasses(unittest.TestCase):
    def test_unit_error_is_a_value_error(self):
        self.assertEqual(UnitError.__bases__, (ValueError,))

    def test_each_of_ours_is_a_unit_error(self):
        for kind in WITHOUT_FIELDS + WITH_FIELDS:
            self.assertEqual(kind.__bases__, (UnitError,), kind)

    def test_no_unit_and_no_shelf_are_under_none_of_ours(self):
        self.assertEqual(NoUnit.__bases__, (KeyError,))
        self.assertEqual(NoShelf.__bases__, (LookupError,))
        for kind in UNDER_NONE:
            for ours in (UnitError,) + WITHOUT_FIELDS + WITH_FIELDS:
                self.assertFalse(issubclass(kind, ours), (kind, ours))
        self.assertFalse(issubclass(NoUnit, NoShelf))
        self.assertFalse(issubclass(NoShelf, NoUnit))

    def test_names_and_file(self):
        names = ["UnitError", "NoTick", "NotReady", "NotBegun", "NotOn", "Running", "NoDoor", "Full", "NoText",
                 "NoRow", "Lack", "Clash", "Knot", "NoUnit", "NoShelf"]
        self.assertEqual(sorted(names), sorted(kind.__name__ for kind in ALL))
        for name in names:
            kind = getattr(errors, name)
            self.assertEqual(kind.__name__, name)
            self.assertEqual(kind.__module__, "unitwants.errors")

    def test_each_is_caught_as_itself_and_as_its_base(self):
        for kind in WITHOUT_FIELDS:
            for base in (kind, UnitError, ValueError):
                with self.assertRaises(base):
                    raise kind("why")

    def test_no_unit_is_not_caught_as_ours(self):
        for made in (NoUnit("abc"), NoShelf("abc")):
            with self.assertRaises(LookupError):
                try:
                    raise made
                except ValueError:
                    self.fail("caught as a ValueError")


class Fields(unittest.TestCase):
    def test_lack(self):
        chain = [("abc", "on"), ("b", "on")]
        for made in (Lack("zz", chain), Lack(chain=chain, missing="zz")):
            self.assertEqual(made.missing, "zz")
            self.assertEqual(made.chain, [("abc", "on"), ("b", "on")])
            self.assertIs(type(made.chain), list)

    def test_clash(self):
        self.assertEqual(Clash("abc").name, "abc")
        self.assertEqual(Clash(name="b").name, "b")

    def test_knot(self):
        for made in (Knot(["b", "a"]), Knot(ring=["b", "a"])):
            self.assertEqual(made.ring, ["b", "a"])
            self.assertIs(type(made.ring), list)

    def test_no_shelf(self):
        self.assertEqual(NoShelf("abc").name, "abc")
        self.assertEqual(NoShelf(name="b").name, "b")

    def test_no_unit_has_any_thing_that_was_handed_in(self):
        things = (None, True, False, 1, 0, -5, 10 ** 60 - 1, "", "abc", "no name", "a\nb", (), [], ("abc",), ["abc"],
                  [1, ("a", [None, [True, ("b", [])]])])
        for thing in things:
            self.assertEqual(repr(NoUnit(thing).name), repr(thing))
            self.assertEqual(NoUnit(name=thing).name, thing)

    def test_fields_are_set_on_the_object(self):
        self.assertEqual(sorted(vars(Lack("a", []))), ["chain", "missing"])
        self.assertEqual(sorted(vars(Knot(["a", "b"]))), ["ring"])
        for kind in (Clash, NoUnit, NoShelf):
            self.assertEqual(sorted(vars(kind("a"))), ["name"])

    def test_each_writes_a_message(self):
        for made in (Lack("a", []), Clash("a"), Knot(["a", "b"]), NoUnit("a"), NoShelf("a"), NoUnit([None, (1,)])):
            self.assertNotEqual(str(made), "")


class OwnLists(unittest.TestCase):
    def test_a_chain_is_shared_with_nobody(self):
        chain = [("a", "on")]
        made = Lack("zz", chain)
        chain.append(("b", "on"))
        self.assertEqual(made.chain, [("a", "on")])
        made.chain.clear()
        self.assertEqual(chain, [("a", "on"), ("b", "on")])

    def test_a_ring_is_shared_with_nobody(self):
        ring = ["a", "b"]
        made = Knot(ring)
        ring.append("c")
        self.assertEqual(made.ring, ["a", "b"])
        made.ring.clear()
        self.assertEqual(ring, ["a", "b", "c"])

    def test_lists_in_what_was_asked_for_are_shared_with_nobody(self):
        inner = [1]
        for thing in ([inner], (inner,), [(inner, "a")], ([[inner]],)):
            inner[:] = [1]
            written = repr(thing)
            made = NoUnit(thing)
            inner.append(2)
            self.assertEqual(repr(made.name), written)
        asked = ["a"]
        made = NoUnit(asked)
        made.name.append("b")
        self.assertEqual(asked, ["a"])


if __name__ == "__main__":
    unittest.main()
