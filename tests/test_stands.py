"""Stands: promise 10."""

import inspect
import itertools
import unittest
from random import Random

from tests.equality import EqualityCase
from tests.model import stand_fits
from tests.things import NO_NAMES, any_stand, four, shelf_fields, shelf_of, some_shelves
from unitwants.shelves import Shelf
from unitwants.stands import Stand, fits, open_in
from unitwants.units import Unit

WORDS = ("wished", "up", "later", "back")
FULL = {"wished": ("a", "b"), "up": ("b", "x"), "later": ("c",), "back": ("d", "e")}
# For each of the four other worths than the one it has in FULL.
CHANGED = {
    "wished": ((), ("a",), ("b",), ("a", "b", "c"), ("a", "c")), "up": ((), ("a", "b"), ("x",), ("b", "x", "y")),
    "later": ((), ("d",), ("c", "d")), "back": ((), ("d",), ("e",), ("c", "d", "e"))}


def none_of_them(stand):
    """Things that are no stands, some as near to this one as can be."""
    told = dict(zip(WORDS, four(stand)))
    return [None, True, False, 0, 1, "", "a", four(stand), list(four(stand)), told, (), [], stand.wished, Stand,
            [stand], (stand,), Shelf(), Unit("a"), *NO_NAMES]


class Making(unittest.TestCase):
    def test_none_of_the_four(self):
        self.assertEqual(four(Stand()), ((), (), (), ()))

    def test_all_four_and_some_left_out(self):
        for many in range(5):
            for words in itertools.combinations(WORDS, many):
                told = {word: FULL[word] for word in words}
                self.assertEqual(four(Stand(**told)), tuple(told.get(word, ()) for word in WORDS))

    def test_in_any_order(self):
        for words in itertools.permutations(WORDS):
            self.assertEqual(four(Stand(**{word: FULL[word] for word in words})), tuple(FULL.values()))

    def test_by_name_alone(self):
        parameters = inspect.signature(Stand).parameters
        self.assertEqual(list(parameters), list(WORDS))
        self.assertEqual({parameter.kind for parameter in parameters.values()}, {inspect.Parameter.KEYWORD_ONLY})
        self.assertEqual([parameter.default for parameter in parameters.values()], [(), (), (), ()])
        with self.assertRaises(TypeError):
            Stand(("a",))

    def test_fields_are_tuples_set_on_the_object(self):
        for stand in (Stand(), Stand(**FULL)):
            self.assertLessEqual(set(WORDS), set(vars(stand)))
            for names in four(stand):
                self.assertIs(type(names), tuple)

    def test_two_stands_share_nothing(self):
        one = Stand(wished=("a",))
        Stand(**FULL)
        self.assertEqual(four(one), (("a",), (), (), ()))


class Equality(EqualityCase):
    def test_the_same_four(self):
        self.assert_same(Stand(), Stand())
        self.assert_same(Stand(**FULL), Stand(**FULL))
        self.assert_same(Stand(), Stand(wished=(), up=(), later=(), back=()))
        self.assert_same(Stand(**FULL), Stand(**{word: tuple(list(names)) for word, names in FULL.items()}))
        stand = Stand(**FULL)
        self.assert_same(stand, stand)

    def test_unlike_in_one_alone(self):
        for word, worths in CHANGED.items():
            for names in worths:
                self.assert_unlike(Stand(**FULL), Stand(**{**FULL, word: names}))
                if names:
                    self.assert_unlike(Stand(), Stand(**{word: names}))

    def test_the_same_names_in_another_place(self):
        for one, other in itertools.permutations(WORDS, 2):
            self.assert_unlike(Stand(**{one: ("a",)}), Stand(**{other: ("a",)}))
            self.assert_unlike(Stand(**FULL), Stand(**{**FULL, one: FULL[other], other: FULL[one]}))

    def test_beside_things_that_are_none(self):
        for stand in (Stand(), Stand(**FULL)):
            for thing in none_of_them(stand):
                self.assert_unlike(stand, thing)

    def test_by_in(self):
        stand = Stand(**FULL)
        things = none_of_them(stand)
        self.assertFalse(stand in things)
        for thing in things:
            self.assertFalse(thing in [stand])
        self.assertTrue(Stand(**FULL) in [*things, stand])
        self.assertFalse(Stand() in (stand,))


class OpenOnes(unittest.TestCase):
    def test_those_wished_and_not_up(self):
        self.assertEqual(open_in(Stand()), [])
        self.assertEqual(open_in(Stand(wished=("a", "b", "c"))), ["a", "b", "c"])
        self.assertEqual(open_in(Stand(wished=("a", "aa", "b", "c"), up=("aa", "c", "d"))), ["a", "b"])
        self.assertEqual(open_in(Stand(wished=("a", "b"), up=("a", "b"))), [])
        self.assertEqual(open_in(Stand(up=("a",), later=("b",), back=("c",))), [])
        self.assertEqual(open_in(Stand(wished=("z",), later=("a",), back=("b",))), ["z"])

    def test_a_new_list_each_time(self):
        stand = Stand(wished=("a", "b"), up=("c",))
        told = open_in(stand)
        self.assertIs(type(told), list)
        told.clear()
        self.assertEqual(open_in(stand), ["a", "b"])
        self.assertEqual(four(stand), (("a", "b"), ("c",), (), ()))

    def test_by_name(self):
        self.assertEqual(open_in(stand=Stand(wished=("a",))), ["a"])
        self.assertEqual(list(inspect.signature(open_in).parameters), ["stand"])


class FitCase(unittest.TestCase):
    def assert_fits(self, shelf, right, **told):
        stand = Stand(**{word: tuple(names) for word, names in told.items()})
        self.assertIs(fits(shelf, stand), right, told)


class Fitting(FitCase):
    def test_stands_that_fit(self):
        shelf = Shelf([Unit("a", needs=("b",), bars=("f",)), Unit("b"), Unit("c", needs=("b",)),
                       Unit("d", needs=("a",)), Unit("e", bars=("x",)), Unit("f")])
        self.assert_fits(Shelf(), True)
        self.assert_fits(shelf, True)
        self.assert_fits(shelf, True, wished="ab", up="b", later="c", back="d")
        self.assert_fits(shelf, True, wished="abcde", up="abcdef")
        self.assert_fits(shelf, True, wished="b", later="a", back="d")
        self.assert_fits(shelf, True, up="acf")
        self.assert_fits(shelf, True, back="acd")

    def test_a_name_that_is_not_on_the_shelf(self):
        shelf = shelf_of(a="", b="")
        for word in WORDS:
            self.assert_fits(shelf, True, **{word: "a"})
            self.assert_fits(shelf, False, **{word: "x"})
            self.assert_fits(shelf, False, **{word: "ax"})
            self.assert_fits(Shelf(), False, **{word: "a"})

    def test_a_name_in_two_of_three(self):
        shelf = shelf_of(a="", b="")
        for one, other in itertools.combinations(("wished", "later", "back"), 2):
            self.assert_fits(shelf, True, **{one: "a", other: "b"})
            self.assert_fits(shelf, False, **{one: "a", other: "a"})
            self.assert_fits(shelf, False, **{one: "ab", other: "b"})
        for word in ("wished", "later", "back"):
            self.assert_fits(shelf, True, **{word: "a", "up": "ab"})

    def test_a_need_that_is_not_wished(self):
        shelf = shelf_of(a="b", b="c", c="")
        self.assert_fits(shelf, True, wished="abc")
        self.assert_fits(shelf, False, wished="ac")
        self.assert_fits(shelf, False, wished="ab")
        self.assert_fits(shelf, True, wished="bc", later="a")
        self.assert_fits(shelf, False, wished="c", later="a")
        self.assert_fits(shelf, False, wished="c", later="ab")
        self.assert_fits(shelf, False, wished="a", later="b")
        self.assert_fits(shelf, False, wished="a", up="abc", back="b")
        self.assert_fits(shelf, False, later="a", up="b")

    def test_what_one_in_back_needs_need_not_be_wished(self):
        shelf = shelf_of(a="b", b=("c", "x"), c="")
        self.assert_fits(shelf, True, back="a")
        self.assert_fits(shelf, True, back="ab")
        self.assert_fits(shelf, True, back="b", later="c")

    def test_a_need_that_is_not_on_the_shelf(self):
        shelf = shelf_of(a="x")
        self.assert_fits(shelf, False, wished="a")
        self.assert_fits(shelf, False, later="a")
        self.assert_fits(shelf, True, back="a")
        self.assert_fits(shelf, True, up="a")

    def test_barred_ones_from_either_side(self):
        for shelf in (Shelf([Unit("a", bars=("b",)), Unit("b")]), Shelf([Unit("a"), Unit("b", bars=("a",))]),
                      Shelf([Unit("a", bars=("b",)), Unit("b", bars=("a",))])):
            for one, other in (("a", "b"), ("b", "a")):
                for word in ("wished", "later"):
                    self.assert_fits(shelf, False, **{word: "ab"})
                    for beside in ("wished", "later", "back"):
                        if beside != word:
                            self.assert_fits(shelf, False, **{word: one, beside: other})
                    self.assert_fits(shelf, True, **{word: one, "up": other})
            self.assert_fits(shelf, True, back="ab")
            self.assert_fits(shelf, True, up="ab")

    def test_wants_after_and_opens_ask_for_nothing(self):
        shelf = Shelf([Unit("a", kind="door", opens="b", wants=("b", "x"), after=("c", "x"), bars=("x",)), Unit("b"),
                       Unit("c")])
        for word in ("wished", "later", "back"):
            self.assert_fits(shelf, True, **{word: "a"})
        self.assert_fits(shelf, True, wished="abc")

    def test_a_ring_among_the_open_ones(self):
        for shelf in (Shelf([Unit("a", after=("b",)), Unit("b", after=("c",)), Unit("c", after=("a",))]),
                      shelf_of(a="b", b="c", c="a"),
                      Shelf([Unit("a", kind="door", opens="c"), Unit("b", kind="door", opens="a"),
                             Unit("c", kind="door", opens="b")])):
            self.assert_fits(shelf, False, wished="abc")
            for name in "abc":
                self.assert_fits(shelf, True, wished="abc", up=name)
            self.assert_fits(shelf, True, wished="abc", up="abc")
            self.assert_fits(shelf, True, back="abc")

    def test_a_ring_of_which_some_are_not_wished(self):
        shelf = Shelf([Unit("a", after=("b",)), Unit("b", after=("a",)), Unit("c")])
        self.assert_fits(shelf, False, wished="ab")
        self.assert_fits(shelf, False, wished="abc", up="c")
        self.assert_fits(shelf, True, wished="a", later="b")
        self.assert_fits(shelf, True, wished="a", back="b")
        self.assert_fits(shelf, True, wished="ac")
        self.assert_fits(shelf, True, later="ab")

    def test_of_many(self):
        source = Random(10)
        told = []
        for most in (1, 2):
            for shelf in some_shelves(10 + most, 600, most=most):
                stand = any_stand(source, shelf)
                before = (shelf_fields(shelf), four(stand))
                right = stand_fits(shelf, stand)
                told.append(right)
                self.assertIs(fits(shelf, stand), right)
                self.assertIs(fits(shelf, stand), right)
                self.assertEqual((shelf_fields(shelf), four(stand)), before)
        self.assertTrue(200 < sum(told) < 1000, sum(told))

    def test_by_name(self):
        self.assertIs(fits(stand=Stand(), shelf=Shelf()), True)
        self.assertEqual(list(inspect.signature(fits).parameters), ["shelf", "stand"])


if __name__ == "__main__":
    unittest.main()
