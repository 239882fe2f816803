import copy
import itertools
import unittest

from dealknot.sheets import at, minus, plus, sheet_of, total

GREAT = 10 ** 60 - 1


class SheetOf(unittest.TestCase):
    def test_no_pairs(self):
        self.assertEqual(sheet_of([]), {})
        self.assertIsInstance(sheet_of([]), dict)

    def test_one_pair(self):
        self.assertEqual(sheet_of([("a", 3)]), {"a": 3})
        self.assertEqual(sheet_of([("a", -3)]), {"a": -3})

    def test_one_key_several_times(self):
        self.assertEqual(sheet_of([("a", 3), ("b", 1), ("a", 4), ("a", -2)]), {"a": 5, "b": 1})

    def test_a_sum_of_0_is_not_in_the_sheet(self):
        self.assertEqual(sheet_of([("a", 3), ("b", 2), ("a", -3)]), {"b": 2})
        self.assertEqual(sheet_of([("a", 1), ("a", 1), ("a", -2)]), {})

    def test_a_0_handed_in_is_not_in_the_sheet(self):
        self.assertEqual(sheet_of([("a", 0)]), {})
        self.assertEqual(sheet_of([("a", 0), ("b", 5), ("b", 0)]), {"b": 5})

    def test_a_sum_that_passes_through_0_is_kept(self):
        self.assertEqual(sheet_of([("a", 3), ("a", -3), ("a", 4)]), {"a": 4})
        self.assertEqual(sheet_of([("a", 0), ("a", -4)]), {"a": -4})

    def test_a_text_and_a_tuple_of_it_are_two_keys(self):
        self.assertEqual(sheet_of([("a", 1), (("a",), 2), ("a", 4)]), {"a": 5, ("a",): 2})
        self.assertEqual(sheet_of([("a", 1), (("a",), -1)]), {"a": 1, ("a",): -1})

    def test_keys_that_are_tuples(self):
        pairs = [(("a", "b"), 1), (("b", "a"), 2), (("a", "b"), 3), (("ab",), 4), (("a", "b", "c"), 5), ((), 6)]
        self.assertEqual(sheet_of(pairs), {("a", "b"): 4, ("b", "a"): 2, ("ab",): 4, ("a", "b", "c"): 5, (): 6})

    def test_the_text_without_signs_is_a_key(self):
        self.assertEqual(sheet_of([("", 1), (("",), 2), ("", 1)]), {"": 2, ("",): 2})

    def test_great_numbers_either_way(self):
        self.assertEqual(sheet_of([("a", GREAT), ("a", GREAT), ("b", -GREAT), ("b", -GREAT)]),
                         {"a": 2 * GREAT, "b": -2 * GREAT})
        self.assertEqual(sheet_of([("a", GREAT), ("a", -GREAT)]), {})
        self.assertEqual(sheet_of([("a", GREAT), ("a", 1 - GREAT)]), {"a": 1})

    def test_three_hundred_pairs(self):
        self.assertEqual(sheet_of([("a", GREAT)] * 300), {"a": 300 * GREAT})

    def test_the_order_of_the_pairs_does_not_matter(self):
        pairs = [("a", 1), ("b", 2), ("a", -1), ("b", 5)]
        for turned in itertools.permutations(pairs):
            self.assertEqual(sheet_of(list(turned)), {"b": 7})


class At(unittest.TestCase):
    def test_a_key_that_stands_there(self):
        self.assertEqual(at({"a": 3, ("a",): -4}, "a"), 3)
        self.assertEqual(at({"a": 3, ("a",): -4}, ("a",)), -4)

    def test_a_key_that_does_not_is_0(self):
        for key in ["b", "", ("a",), ("a", "b"), ()]:
            with self.subTest(key):
                self.assertIs(type(at({"a": 3}, key)), int)
                self.assertEqual(at({"a": 3}, key), 0)
                self.assertEqual(at({}, key), 0)


class PlusAndMinus(unittest.TestCase):
    def test_key_by_key(self):
        one, other = {"a": 3, "b": -2}, {"b": 5, "c": 7}
        self.assertEqual(plus(one, other), {"a": 3, "b": 3, "c": 7})
        self.assertEqual(minus(one, other), {"a": 3, "b": -7, "c": -7})
        self.assertEqual(minus(other, one), {"a": -3, "b": 7, "c": 7})

    def test_no_0_in_what_is_told(self):
        self.assertEqual(plus({"a": 3, "b": 1}, {"a": -3, "b": 1}), {"b": 2})
        self.assertEqual(minus({"a": 3, "b": 1}, {"a": 3, "b": 2}), {"b": -1})

    def test_with_itself(self):
        one = {"a": 3, ("a", "b"): -2}
        self.assertEqual(plus(one, one), {"a": 6, ("a", "b"): -4})
        self.assertEqual(minus(one, one), {})
        self.assertEqual(one, {"a": 3, ("a", "b"): -2})

    def test_with_the_empty_sheet(self):
        one = {"a": 3, ("a", "b"): -2}
        self.assertEqual(plus(one, {}), one)
        self.assertEqual(plus({}, one), one)
        self.assertEqual(minus(one, {}), one)
        self.assertEqual(minus({}, one), {"a": -3, ("a", "b"): 2})
        self.assertEqual(plus({}, {}), {})
        self.assertEqual(minus({}, {}), {})

    def test_a_text_and_a_tuple_of_it_stay_apart(self):
        self.assertEqual(plus({"a": 1}, {("a",): -1}), {"a": 1, ("a",): -1})
        self.assertEqual(minus({"a": 1}, {("a",): 1}), {"a": 1, ("a",): -1})

    def test_great_numbers(self):
        self.assertEqual(plus({"a": GREAT}, {"a": GREAT}), {"a": 2 * GREAT})
        self.assertEqual(minus({"a": -GREAT}, {"a": GREAT}), {"a": -2 * GREAT})

    def test_small_sheets_all_together(self):
        sheets = [sheet_of([("a", a), ("b", b)]) for a in range(-2, 3) for b in range(-2, 3)]
        for one in sheets:
            for other in sheets:
                for key in ["a", "b", "c"]:
                    self.assertEqual(at(plus(one, other), key), at(one, key) + at(other, key))
                    self.assertEqual(at(minus(one, other), key), at(one, key) - at(other, key))
                self.assertNotIn(0, list(plus(one, other).values()) + list(minus(one, other).values()))
                self.assertEqual(minus(plus(one, other), other), one)


class Total(unittest.TestCase):
    def test_of_the_empty_sheet(self):
        self.assertEqual(total({}), 0)

    def test_of_sheets(self):
        self.assertEqual(total({"a": 3}), 3)
        self.assertEqual(total({"a": 3, "b": -5, ("a", "b"): 1}), -1)
        self.assertEqual(total({"a": 3, "b": -3}), 0)
        self.assertEqual(total({"a": GREAT, "b": GREAT}), 2 * GREAT)


class WhoseItIs(unittest.TestCase):
    def test_what_is_handed_in_stays(self):
        pairs = [("a", 1), (("a",), 2), ("a", -1)]
        one, other = {"a": 3, ("a",): -2}, {"a": -3, "b": 1}
        kept = copy.deepcopy((pairs, one, other))
        sheet_of(pairs)
        at(one, "a")
        at(one, "zz")
        plus(one, other)
        minus(one, other)
        total(one)
        self.assertEqual((pairs, one, other), kept)
        self.assertEqual(list(one), list(kept[1]))

    def test_what_was_told_stays_when_pairs_change(self):
        pairs = [("a", 1), ("b", 2)]
        told = sheet_of(pairs)
        pairs[0] = ("c", 9)
        pairs.append(("b", -2))
        self.assertEqual(told, {"a": 1, "b": 2})

    def test_what_was_told_stays_when_sheets_change(self):
        for call, right in [(plus, {"a": 3}), (minus, {"a": 3})]:
            one, other = {"a": 3}, {}
            told = call(one, other)
            one["a"] = 7
            other["b"] = 8
            self.assertEqual(told, right)
        for call, right in [(plus, {"a": 3}), (minus, {"a": -3})]:
            one, other = {}, {"a": 3}
            told = call(one, other)
            one["b"] = 8
            other.clear()
            self.assertEqual(told, right)

    def test_what_is_told_is_the_askers_own(self):
        one, other = {"a": 3}, {}
        calls = [
            lambda: sheet_of([]), lambda: sheet_of([("a", 1)]),
            lambda: plus(one, other), lambda: plus(other, one), lambda: plus(other, other), lambda: plus(one, one),
            lambda: minus(one, other), lambda: minus(other, one), lambda: minus(one, one)]
        for call in calls:
            told = call()
            right = dict(told)
            told["a"] = 99
            told["new"] = 1
            self.assertEqual(call(), right)
            self.assertEqual((one, other), ({"a": 3}, {}))


if __name__ == "__main__":
    unittest.main()
