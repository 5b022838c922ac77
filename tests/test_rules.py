"""Rules and the waits of falls: promise 4."""

import inspect
import itertools
import unittest

from tests.equality import EqualityCase
from unitwants.rules import Rule, waits

NAMES = ("first", "times", "top", "burst", "span")
DEFAULTS = {"first": 1, "times": 2, "top": 64, "burst": 5, "span": 100}
BOUNDS = {"first": (1, 1000), "times": (1, 10), "top": (1, 10 ** 6), "burst": (0, 20), "span": (0, 10 ** 6)}
OTHERS = {"first": 7, "times": 3, "top": 900, "burst": 4, "span": 12}


def five(rule):
    return {name: getattr(rule, name) for name in NAMES}


def none_of_them(rule):
    """Things that are no rules, some as near to this one as can be."""
    numbers = [rule.first, rule.times, rule.top, rule.burst, rule.span]
    return [None, True, False, 0, 1, rule.first, "", str(rule), repr(rule), tuple(numbers), numbers, (), [],
            five(rule), Rule, [rule], (rule,)]


def waits_told(rule, falls):
    """What promise 4 says, written another way: by rows of ticks and by powers."""
    told = []
    row = []
    for tick in falls:
        if row and tick > row[-1] + rule.span:
            row = []
        if len(row) == rule.burst:
            told.append(None)
            row = []
        else:
            told.append(min(rule.first * rule.times ** len(row), rule.top))
            row.append(tick)
    return told


class Making(unittest.TestCase):
    def test_all_left_out(self):
        self.assertEqual(five(Rule()), DEFAULTS)

    def test_each_at_its_least_and_at_its_greatest(self):
        for name in NAMES:
            for number in BOUNDS[name]:
                self.assertEqual(five(Rule(**{name: number})), {**DEFAULTS, name: number})

    def test_all_at_their_bounds_together(self):
        for numbers in itertools.product(*[BOUNDS[name] for name in NAMES]):
            told = dict(zip(NAMES, numbers))
            self.assertEqual(five(Rule(**told)), told)

    def test_some_left_out(self):
        for many in range(len(NAMES) + 1):
            for names in itertools.combinations(NAMES, many):
                told = {name: OTHERS[name] for name in names}
                self.assertEqual(five(Rule(**told)), {**DEFAULTS, **told})

    def test_names_in_any_order(self):
        for names in itertools.permutations(NAMES):
            self.assertEqual(five(Rule(**{name: OTHERS[name] for name in names})), OTHERS)

    def test_by_name_alone(self):
        for places in ((1,), (1, 2), (1, 2, 64, 5, 100)):
            with self.assertRaises(TypeError):
                Rule(*places)

    def test_the_names_and_what_stands_behind_them(self):
        parameters = inspect.signature(Rule).parameters
        self.assertEqual({name: parameters[name].default for name in parameters}, DEFAULTS)
        self.assertEqual({parameter.kind for parameter in parameters.values()}, {inspect.Parameter.KEYWORD_ONLY})

    def test_fields_are_set_on_the_object(self):
        self.assertEqual({name: vars(Rule())[name] for name in NAMES}, DEFAULTS)

    def test_somewhat_beyond_the_bounds_nothing_is_refused(self):
        for told in ({"first": 1001}, {"times": 11}, {"top": 10 ** 6 + 1}, {"burst": 21}, {"span": 10 ** 6 + 1}):
            self.assertEqual(five(Rule(**told)), {**DEFAULTS, **told})

    def test_two_rules_share_nothing(self):
        one = Rule(first=3)
        Rule(first=4, times=5, top=6, burst=7, span=8)
        self.assertEqual(five(one), {**DEFAULTS, "first": 3})


class Equality(EqualityCase):
    def test_the_same_five(self):
        self.assert_same(Rule(), Rule())
        self.assert_same(Rule(), Rule(**DEFAULTS))
        self.assert_same(Rule(**OTHERS), Rule(**OTHERS))
        rule = Rule()
        self.assert_same(rule, rule)

    def test_the_same_five_as_other_objects(self):
        for name in NAMES:
            great = BOUNDS[name][1]
            self.assert_same(Rule(**{name: int(str(great))}), Rule(**{name: int(str(great))}))

    def test_unlike_in_one_alone(self):
        for base in (DEFAULTS, OTHERS, {name: BOUNDS[name][1] - 1 for name in NAMES}):
            for name in NAMES:
                for number in BOUNDS[name] + (base[name] + 1,):
                    if number != base[name]:
                        self.assert_unlike(Rule(**base), Rule(**{**base, name: number}))

    def test_the_same_numbers_at_other_places(self):
        self.assert_unlike(Rule(first=2, times=3, top=4), Rule(first=3, times=2, top=4))
        self.assert_unlike(Rule(top=5, burst=6, span=7), Rule(top=5, burst=7, span=6))
        self.assert_unlike(Rule(first=5, top=6), Rule(first=6, top=5))

    def test_beside_things_that_are_none(self):
        for rule in (Rule(), Rule(**OTHERS), Rule(first=1, times=1, top=1, burst=0, span=0)):
            for thing in none_of_them(rule):
                self.assert_unlike(rule, thing)

    def test_by_in(self):
        rule = Rule(**OTHERS)
        things = none_of_them(rule)
        self.assertFalse(rule in things)
        self.assertFalse(rule in tuple(things))
        for thing in things:
            self.assertFalse(thing in [rule])
            self.assertFalse(thing in (rule, Rule()))
        self.assertTrue(Rule(**OTHERS) in things + [rule])
        self.assertTrue(rule in (None, Rule(**OTHERS)))
        self.assertFalse(Rule() in [rule])
        self.assertEqual([Rule(), None, rule].index(Rule(**OTHERS)), 2)

    def test_within_other_things(self):
        self.assertEqual([Rule(), (Rule(**OTHERS),)], [Rule(), (Rule(**OTHERS),)])
        self.assertNotEqual([Rule()], [Rule(span=99)])


class Writing(unittest.TestCase):
    def test_as_the_document_writes_them(self):
        self.assertEqual(str(Rule()), "1 2 64 5 100")
        self.assertEqual(repr(Rule()), "Rule(1, 2, 64, 5, 100)")

    def test_others(self):
        self.assertEqual(str(Rule(**OTHERS)), "7 3 900 4 12")
        self.assertEqual(repr(Rule(**OTHERS)), "Rule(7, 3, 900, 4, 12)")

    def test_at_the_bounds(self):
        least = Rule(first=1, times=1, top=1, burst=0, span=0)
        greatest = Rule(first=1000, times=10, top=10 ** 6, burst=20, span=10 ** 6)
        self.assertEqual(str(least), "1 1 1 0 0")
        self.assertEqual(repr(least), "Rule(1, 1, 1, 0, 0)")
        self.assertEqual(str(greatest), "1000 10 1000000 20 1000000")
        self.assertEqual(repr(greatest), "Rule(1000, 10, 1000000, 20, 1000000)")

    def test_the_same_each_time(self):
        rule = Rule(**OTHERS)
        self.assertEqual([str(rule), repr(rule)], [str(rule), repr(rule)])
        waits(rule, [1, 2, 3])
        self.assertEqual((str(rule), repr(rule)), ("7 3 900 4 12", "Rule(7, 3, 900, 4, 12)"))

    def test_within_a_list_and_a_text(self):
        self.assertEqual(str([Rule()]), "[Rule(1, 2, 64, 5, 100)]")
        self.assertEqual(f"{Rule()}", "1 2 64 5 100")


class Waits(unittest.TestCase):
    def test_no_falls(self):
        self.assertEqual(waits(Rule(), []), [])
        self.assertEqual(waits(Rule(burst=0), []), [])

    def test_one_fall(self):
        for tick in (0, 1, 10 ** 6):
            self.assertEqual(waits(Rule(), [tick]), [1])
            self.assertEqual(waits(Rule(first=9), [tick]), [9])

    def test_burst_nought_gives_each_up(self):
        for span in (0, 1, 10 ** 6):
            self.assertEqual(waits(Rule(burst=0, span=span), [0]), [None])
            self.assertEqual(waits(Rule(burst=0, span=span), [0, 0, 3, 10 ** 6]), [None] * 4)

    def test_burst_one(self):
        self.assertEqual(waits(Rule(burst=1, first=3), [4, 5, 6, 7, 8]), [3, None, 3, None, 3])

    def test_burst_reached_and_the_new_row_behind_it(self):
        self.assertEqual(waits(Rule(), list(range(13))), [1, 2, 4, 8, 16, None, 1, 2, 4, 8, 16, None, 1])
        self.assertEqual(waits(Rule(burst=2), [5, 5, 5, 5, 5, 5]), [1, 2, None, 1, 2, None])

    def test_the_row_behind_a_given_up_one_is_broken_by_span_as_well(self):
        rule = Rule(burst=2, span=10)
        self.assertEqual(waits(rule, [0, 1, 2, 3, 14, 15, 16]), [1, 2, None, 1, 1, 2, None])
        self.assertEqual(waits(rule, [0, 1, 2, 13, 14, 15]), [1, 2, None, 1, 2, None])

    def test_just_span_behind_and_one_more(self):
        rule = Rule(span=10)
        self.assertEqual(waits(rule, [5, 15]), [1, 2])
        self.assertEqual(waits(rule, [5, 16]), [1, 1])
        self.assertEqual(waits(rule, [5, 14]), [1, 2])
        self.assertEqual(waits(Rule(), [0, 100, 200, 301, 401]), [1, 2, 4, 1, 2])

    def test_span_is_counted_from_the_one_ahead_not_from_the_first(self):
        self.assertEqual(waits(Rule(span=10), [0, 10, 20, 30]), [1, 2, 4, 8])

    def test_a_broken_row_counts_anew_towards_burst(self):
        self.assertEqual(waits(Rule(burst=2, span=5), [0, 1, 7, 8, 9]), [1, 2, 1, 2, None])

    def test_span_nought(self):
        rule = Rule(span=0, burst=3)
        self.assertEqual(waits(rule, [7, 7, 7, 7, 7]), [1, 2, 4, None, 1])
        self.assertEqual(waits(rule, [7, 7, 8, 8, 9]), [1, 2, 1, 2, 1])
        self.assertEqual(waits(rule, [0, 1, 2, 3]), [1, 1, 1, 1])

    def test_times_one(self):
        self.assertEqual(waits(Rule(times=1, first=6), [1, 2, 3, 4, 5, 6]), [6, 6, 6, 6, 6, None])

    def test_other_times(self):
        self.assertEqual(waits(Rule(times=3, top=1000), [0, 0, 0, 0, 0]), [1, 3, 9, 27, 81])
        self.assertEqual(waits(Rule(first=5, times=10, top=10 ** 6), [0, 0, 0, 0, 0]), [5, 50, 500, 5000, 50000])

    def test_at_top_and_below_it(self):
        falls = [0, 1, 2, 3, 4]
        self.assertEqual(waits(Rule(top=8), falls), [1, 2, 4, 8, 8])
        self.assertEqual(waits(Rule(top=9), falls), [1, 2, 4, 8, 9])
        self.assertEqual(waits(Rule(top=7), falls), [1, 2, 4, 7, 7])
        self.assertEqual(waits(Rule(top=16), falls), [1, 2, 4, 8, 16])
        self.assertEqual(waits(Rule(top=1), falls), [1, 1, 1, 1, 1])

    def test_first_at_top_and_greater(self):
        self.assertEqual(waits(Rule(first=5, top=5), [0, 1]), [5, 5])
        self.assertEqual(waits(Rule(first=5, top=4), [0, 1]), [4, 4])
        self.assertEqual(waits(Rule(first=1000, top=1, times=1), [0, 1]), [1, 1])

    def test_two_hundred_falls(self):
        six = [1, 2, 4, 8, 16, None]
        self.assertEqual(waits(Rule(), list(range(200))), (six * 34)[:200])
        self.assertEqual(waits(Rule(), [10 ** 6] * 200), (six * 34)[:200])
        self.assertEqual(waits(Rule(), list(range(0, 200 * 101, 101))), [1] * 200)
        self.assertEqual(waits(Rule(burst=0), list(range(200))), [None] * 200)

    def test_numbers_at_their_bounds(self):
        least = Rule(first=1, times=1, top=1, burst=0, span=0)
        greatest = Rule(first=1000, times=10, top=10 ** 6, burst=20, span=10 ** 6)
        self.assertEqual(waits(least, [0, 0, 10 ** 6]), [None, None, None])
        self.assertEqual(waits(greatest, [0, 10 ** 6]), [1000, 10000])
        row = [1000, 10000, 100000] + [10 ** 6] * 17 + [None]
        self.assertEqual(waits(greatest, [10 ** 6] * 43), row + row + [1000])
        falls = [0] * 30 + [1] * 30 + [10 ** 6] * 60
        for numbers in itertools.product(*[BOUNDS[name] for name in NAMES]):
            rule = Rule(**dict(zip(NAMES, numbers)))
            self.assertEqual(waits(rule, falls), waits_told(rule, falls), rule)

    def test_as_told_another_way(self):
        rows = [list(itertools.accumulate((3,) + gaps)) for gaps in itertools.product((0, 1, 2), repeat=5)]
        for first, times, top, burst, span in itertools.product((1, 3), (1, 2, 3), (2, 9), range(5), (0, 1)):
            rule = Rule(first=first, times=times, top=top, burst=burst, span=span)
            for falls in rows:
                self.assertEqual(waits(rule, falls), waits_told(rule, falls), (rule, falls))

    def test_waits_are_whole_numbers_or_none(self):
        for wait in waits(Rule(), list(range(20))):
            self.assertIn(type(wait), (int, type(None)))

    def test_by_place_and_by_name(self):
        rule = Rule(first=4)
        self.assertEqual(waits(rule, falls=[1, 2]), [4, 8])
        self.assertEqual(waits(falls=[1, 2], rule=rule), [4, 8])

    def test_somewhat_beyond_the_bounds_nothing_is_refused(self):
        self.assertEqual(waits(Rule(burst=10 ** 3, times=1), [0] * 250), [1] * 250)
        self.assertEqual(waits(Rule(), [10 ** 6, 10 ** 6 + 5]), [1, 2])


class WhatIsHandedInAndTold(unittest.TestCase):
    def test_nothing_that_is_handed_in_is_changed(self):
        rule = Rule(**OTHERS)
        falls = [1, 2, 2, 50, 51]
        waits(rule, falls)
        self.assertEqual(falls, [1, 2, 2, 50, 51])
        self.assertEqual(five(rule), OTHERS)
        self.assertEqual(rule, Rule(**OTHERS))

    def test_the_list_is_a_new_one_each_time(self):
        rule = Rule()
        for falls in ([], [1], [1, 2, 4]):
            one = waits(rule, falls)
            other = waits(rule, falls)
            self.assertIs(type(one), list)
            self.assertIsNot(one, other)
            self.assertIsNot(one, falls)
            self.assertEqual(one, other)

    def test_changing_it_changes_no_later_answer(self):
        rule = Rule()
        falls = [1, 2]
        told = waits(rule, falls)
        told.append(77)
        told[0] = None
        self.assertEqual(falls, [1, 2])
        self.assertEqual(waits(rule, falls), [1, 2])
        empty = waits(rule, [])
        empty.append(5)
        self.assertEqual(waits(rule, []), [])

    def test_nothing_done_later_changes_it(self):
        rule = Rule()
        falls = [1, 2]
        told = waits(rule, falls)
        falls.append(3)
        self.assertEqual(told, [1, 2])
        self.assertEqual(waits(rule, falls), [1, 2, 4])
        falls[:] = [900]
        self.assertEqual(waits(rule, falls), [1])
        self.assertEqual(told, [1, 2])

    def test_rules_do_not_reach_into_one_another(self):
        one = Rule(burst=1)
        other = Rule(first=3)
        self.assertEqual(waits(one, [0, 0]), [1, None])
        self.assertEqual(waits(other, [0, 0]), [3, 6])
        self.assertEqual(waits(one, [0, 0]), [1, None])


if __name__ == "__main__":
    unittest.main()
