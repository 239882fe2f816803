import copy
import itertools
import unittest

from dealknot.deals import brings, by_ware, change, deal_of, gives, is_amount, is_name, is_shelf, rows_of
from dealknot.errors import HallError, NoLeg, NoName
from dealknot.sheets import at, sheet_of, total

GREAT = 10 ** 60 - 1
LEG = ("ann", "bob", "corn", 3)

NAMES = ["a", "z", "m", "ab", "none", "abcdefgh", "zzzzzzzz", "stuvwxyz", "ijklmnop", "qr"]

NOT_NAMES = [
    "", "abcdefghi", "a" * 300, "A", "Ab", "aB", "ABCDEFGH", "1", "a1", "1a", "0", " ", "a b", " a", "a ",
    "a\n", "\na", "\n", "a\nb", "a\r", "a\t", "\ta", "a-b", "a_b", "_", "a.", "a,", "a'", "`", "{", "@", "[", "~",
    None, True, False, 0, 1, -1, 10 ** 5000, [], ["a"], (), ("a",), ("a", "b"), {}, {"a": 1}, {"a"},
    b"a", 1.5, object(), str]

AMOUNTS = [1, 2, 9, 10, 10 ** 59, GREAT - 1, GREAT]

NOT_AMOUNTS = [
    0, -1, -GREAT, 10 ** 60, 10 ** 60 + 1, 10 ** 61, 10 ** 5000, -10 ** 5000, True, False, "1", "", "a", None,
    [], [1], (), (1,), {}, {1: 1}, {1}, 1.0, 2.5, float("nan"), float("inf"), b"1", object(), int]


class Names(unittest.TestCase):
    def test_names(self):
        for thing in NAMES + list("abcdefghijklmnopqrstuvwxyz"):
            with self.subTest(thing):
                self.assertIs(is_name(thing), True)

    def test_each_length(self):
        for length in range(12):
            self.assertIs(is_name("q" * length), 1 <= length <= 8)

    def test_no_names(self):
        for place, thing in enumerate(NOT_NAMES):
            with self.subTest(place):
                self.assertIs(is_name(thing), False)

    def test_each_sign_at_each_place(self):
        signs = [chr(code) for code in range(32, 127)] + ["\n", "\t"]
        for sign in signs:
            for text in [sign, sign + "abc", "ab" + sign + "c", "abc" + sign, "abcdefg" + sign, "abcdefgh" + sign]:
                with self.subTest(text):
                    self.assertIs(is_name(text), "a" <= sign <= "z" and len(text) <= 8)


class Amounts(unittest.TestCase):
    def test_amounts(self):
        for thing in AMOUNTS:
            with self.subTest(thing):
                self.assertIs(is_amount(thing), True)

    def test_no_amounts(self):
        for place, thing in enumerate(NOT_AMOUNTS):
            with self.subTest(place):
                self.assertIs(is_amount(thing), False)


class Shelves(unittest.TestCase):
    def test_shelves(self):
        for house, ware in itertools.product(NAMES, NAMES):
            self.assertIs(is_shelf((house, ware)), True)

    def test_house_and_ware_may_be_the_same_name(self):
        self.assertIs(is_shelf(("a", "a")), True)

    def test_one_thing_that_is_no_name(self):
        for place, thing in enumerate(NOT_NAMES):
            with self.subTest(place):
                self.assertIs(is_shelf((thing, "a")), False)
                self.assertIs(is_shelf(("a", thing)), False)
                self.assertIs(is_shelf((thing, thing)), False)

    def test_no_tuple_of_two(self):
        things = [
            ["a", "b"], (), ("a",), ("a", "b", "c"), ("a", "b", "c", 1), "ab", "a", "", {"a": "b"}, {"a": 1, "b": 2},
            {"a", "b"}, None, True, False, 0, 2, 1.5, b"ab", object(), (("a", "b"),), (("a", "b"), ("a", "b")),
            [("a", "b")], tuple]
        for place, thing in enumerate(things):
            with self.subTest(place):
                self.assertIs(is_shelf(thing), False)


def numbered_legs(count):
    return [("ann", "bob", "corn", number + 1) for number in range(count)]


def bad_legs():
    bad = [
        list(LEG), (), LEG[:1], LEG[:2], LEG[:3], LEG + (1,), LEG + ("bob",), (LEG,), [LEG], None, True, False, 0, 4,
        "abcd", "leg", "", {}, {"a": 1, "b": 2, "c": 3, "d": 4}, object(),
        ("ann", "ann", "corn", 3), ("a", "a", "a", 1), ("ann", "bob", 3, "corn"), (3, "ann", "bob", "corn")]
    for thing in NOT_NAMES:
        bad.extend([(thing, "bob", "corn", 3), ("ann", thing, "corn", 3), ("ann", "bob", thing, 3),
                    (thing, thing, "corn", 3)])
    for thing in NOT_AMOUNTS:
        bad.append(("ann", "bob", "corn", thing))
    return bad


class DealOf(unittest.TestCase):
    def assert_refused(self, refusal, name, legs):
        with self.assertRaises(HallError) as caught:
            deal_of(name, legs)
        self.assertIs(caught.exception.__class__, refusal)

    def test_each_count_of_legs(self):
        for count in range(1, 9):
            legs = numbered_legs(count)
            deal = deal_of("x", legs)
            self.assertEqual(deal, ("x", tuple(legs)))
            self.assertIs(type(deal), tuple)
            self.assertIs(type(deal[1]), tuple)

    def test_each_name(self):
        for name in NAMES:
            self.assertEqual(deal_of(name, [LEG]), (name, (LEG,)))

    def test_legs_stay_as_they_stand(self):
        legs = [("b", "a", "w", 2), ("a", "b", "w", 2), ("b", "a", "w", 2), ("a", "c", "v", 1)]
        self.assertEqual(deal_of("x", legs), ("x", tuple(legs)))

    def test_names_in_a_leg_may_meet_but_for_giver_and_taker(self):
        for leg in [("a", "b", "a", 1), ("a", "b", "b", 1), ("x", "b", "w", 1), ("a", "ab", "w", 1)]:
            self.assertEqual(deal_of("x", [leg]), ("x", (leg,)))

    def test_each_amount(self):
        for amount in AMOUNTS:
            leg = ("a", "b", "w", amount)
            self.assertEqual(deal_of("x", [leg]), ("x", (leg,)))

    def test_no_name(self):
        for place, thing in enumerate(NOT_NAMES):
            with self.subTest(place):
                self.assert_refused(NoName, thing, [LEG])

    def test_no_name_is_told_ahead_of_no_leg(self):
        for thing in ["", "A", "abcdefghi", "a\n", None, True, 7, ["a"], ("a",), {}]:
            for legs in [[], (LEG,), None, {}, 3, "", numbered_legs(9), [None], [LEG, list(LEG)]]:
                self.assert_refused(NoName, thing, legs)

    def test_legs_that_are_no_list(self):
        things = [
            (), (LEG,), (LEG, LEG), LEG, "", "legs", None, {}, {LEG: 1}, {0: LEG}, {LEG}, 0, 1, 8, True, False, 1.5,
            10 ** 5000, b"", object(), list]
        for place, thing in enumerate(things):
            with self.subTest(place):
                self.assert_refused(NoLeg, "x", thing)

    def test_no_legs_and_too_many(self):
        self.assert_refused(NoLeg, "x", [])
        for count in [9, 10, 16, 300]:
            self.assert_refused(NoLeg, "x", numbered_legs(count))

    def test_one_thing_that_is_no_leg(self):
        for kind, thing in enumerate(bad_legs()):
            with self.subTest(kind):
                self.assert_refused(NoLeg, "x", [thing])

    def test_no_leg_at_any_place(self):
        for kind, thing in enumerate(bad_legs()):
            for count in [2, 3, 8]:
                for place in range(count):
                    legs = numbered_legs(count)
                    legs[place] = thing
                    with self.subTest((kind, count, place)):
                        self.assert_refused(NoLeg, "x", legs)


class GivesAndBrings(unittest.TestCase):
    def test_one_leg(self):
        deal = deal_of("x", [("a", "b", "w", 5)])
        self.assertEqual(gives(deal), {("a", "w"): 5})
        self.assertEqual(brings(deal), {("b", "w"): 5})
        self.assertEqual(change(deal), {("a", "w"): -5, ("b", "w"): 5})
        self.assertEqual(rows_of(deal), [("a", "w")])

    def test_several_legs_from_and_to_the_same_shelf(self):
        deal = deal_of("x", [
            ("a", "b", "w", 5), ("a", "b", "w", 7), ("a", "c", "w", 1), ("c", "b", "w", 2), ("a", "b", "v", 100)])
        self.assertEqual(gives(deal), {("a", "w"): 13, ("c", "w"): 2, ("a", "v"): 100})
        self.assertEqual(brings(deal), {("b", "w"): 14, ("c", "w"): 1, ("b", "v"): 100})
        self.assertEqual(change(deal), {
            ("a", "w"): -13, ("b", "w"): 14, ("c", "w"): -1, ("a", "v"): -100, ("b", "v"): 100})
        self.assertEqual(rows_of(deal), [("a", "v"), ("a", "w"), ("c", "w")])

    def test_a_house_that_gives_and_takes_the_same_ware(self):
        deal = deal_of("x", [("a", "b", "w", 5), ("b", "c", "w", 5)])
        self.assertEqual(gives(deal), {("a", "w"): 5, ("b", "w"): 5})
        self.assertEqual(brings(deal), {("b", "w"): 5, ("c", "w"): 5})
        self.assertEqual(change(deal), {("a", "w"): -5, ("c", "w"): 5})
        self.assertEqual(rows_of(deal), [("a", "w"), ("b", "w")])

    def test_a_ring_changes_nothing_and_still_gives(self):
        deal = deal_of("x", [("a", "b", "w", 5), ("b", "c", "w", 5), ("c", "a", "w", 5)])
        shelves = [("a", "w"), ("b", "w"), ("c", "w")]
        self.assertEqual(gives(deal), {shelf: 5 for shelf in shelves})
        self.assertEqual(brings(deal), {shelf: 5 for shelf in shelves})
        self.assertEqual(change(deal), {})
        self.assertEqual(rows_of(deal), shelves)

    def test_houses_where_one_is_a_beginning_of_another(self):
        deal = deal_of("x", [("ab", "a", "c", 1), ("a", "ab", "bc", 2), ("a", "b", "b", 4), ("a", "abc", "c", 8)])
        self.assertEqual(gives(deal), {("ab", "c"): 1, ("a", "bc"): 2, ("a", "b"): 4, ("a", "c"): 8})
        self.assertEqual(brings(deal), {("a", "c"): 1, ("ab", "bc"): 2, ("b", "b"): 4, ("abc", "c"): 8})
        self.assertEqual(change(deal), {
            ("ab", "c"): -1, ("a", "bc"): -2, ("a", "b"): -4, ("a", "c"): -7,
            ("ab", "bc"): 2, ("b", "b"): 4, ("abc", "c"): 8})
        self.assertEqual(rows_of(deal), [("a", "b"), ("a", "bc"), ("a", "c"), ("ab", "c")])

    def test_a_house_called_like_a_ware_or_the_deal(self):
        deal = deal_of("a", [("a", "w", "a", 1), ("w", "a", "w", 2)])
        self.assertEqual(gives(deal), {("a", "a"): 1, ("w", "w"): 2})
        self.assertEqual(brings(deal), {("w", "a"): 1, ("a", "w"): 2})

    def test_great_amounts(self):
        deal = deal_of("x", [("a", "b", "w", GREAT)] * 8)
        self.assertEqual(gives(deal), {("a", "w"): 8 * GREAT})
        self.assertEqual(brings(deal), {("b", "w"): 8 * GREAT})
        self.assertEqual(change(deal), {("a", "w"): -8 * GREAT, ("b", "w"): 8 * GREAT})

    def test_all_small_deals(self):
        legs = [(giver, taker, ware, amount) for giver in "abc" for taker in "abc" for ware in "vw"
                for amount in [1, 2] if giver != taker]
        for some in itertools.combinations_with_replacement(legs, 2):
            deal = deal_of("x", list(some))
            for shelf in itertools.product("abc", "vw"):
                given = sum(leg[3] for leg in some if (leg[0], leg[2]) == shelf)
                brought = sum(leg[3] for leg in some if (leg[1], leg[2]) == shelf)
                self.assertEqual(at(gives(deal), shelf), given)
                self.assertEqual(at(brings(deal), shelf), brought)
                self.assertEqual(at(change(deal), shelf), brought - given)
            for one in [gives(deal), brings(deal), change(deal)]:
                self.assertNotIn(0, list(one.values()))
            self.assertEqual(rows_of(deal), sorted({(leg[0], leg[2]) for leg in some}))
            self.assertEqual(by_ware(change(deal)), {})
            self.assertEqual(by_ware(gives(deal)), by_ware(brings(deal)))
            self.assertEqual(by_ware(gives(deal)), sheet_of([(leg[2], leg[3]) for leg in some]))


class ByWare(unittest.TestCase):
    def test_the_empty_sheet(self):
        self.assertEqual(by_ware({}), {})

    def test_the_sum_over_all_houses(self):
        one = {("a", "w"): 3, ("b", "w"): 4, ("a", "v"): -5, ("w", "a"): 6}
        self.assertEqual(by_ware(one), {"w": 7, "v": -5, "a": 6})

    def test_a_ware_that_comes_to_0_is_not_told(self):
        self.assertEqual(by_ware({("a", "w"): 3, ("b", "w"): -3, ("b", "v"): 1}), {"v": 1})

    def test_wares_where_one_is_a_beginning_of_another(self):
        self.assertEqual(by_ware({("a", "bc"): 1, ("ab", "c"): 2, ("x", "b"): 4}), {"bc": 1, "c": 2, "b": 4})

    def test_great_numbers(self):
        self.assertEqual(by_ware({("a", "w"): GREAT, ("b", "w"): GREAT}), {"w": 2 * GREAT})

    def test_a_change_by_wares_is_empty(self):
        deal = deal_of("x", [
            ("a", "b", "w", GREAT), ("b", "c", "w", 7), ("c", "a", "v", 1), ("c", "b", "v", 2), ("b", "a", "v", 2)])
        self.assertEqual(by_ware(change(deal)), {})
        self.assertEqual(total(change(deal)), 0)
        self.assertNotEqual(change(deal), {})


class RowsOf(unittest.TestCase):
    def test_sorted_house_before_ware(self):
        legs = [("b", "x", "a", 1), ("a", "x", "z", 1), ("ab", "x", "a", 1), ("a", "x", "b", 1), ("b", "x", "aa", 1)]
        right = [("a", "b"), ("a", "z"), ("ab", "a"), ("b", "a"), ("b", "aa")]
        for turned in itertools.permutations(legs):
            self.assertEqual(rows_of(deal_of("d", list(turned))), right)

    def test_each_shelf_once(self):
        self.assertEqual(rows_of(deal_of("d", numbered_legs(8))), [("ann", "corn")])

    def test_a_list_of_tuples(self):
        told = rows_of(deal_of("d", [LEG]))
        self.assertIs(type(told), list)
        self.assertIs(type(told[0]), tuple)


class WhoseItIs(unittest.TestCase):
    def test_what_is_handed_in_stays(self):
        legs = [("a", "b", "w", 5), ("a", "b", "w", 7), ("b", "a", "v", 1)]
        one = {("a", "w"): 3, ("b", "w"): -3, ("b", "v"): 1}
        kept = copy.deepcopy((legs, one))
        deal = deal_of("x", legs)
        by_ware(one)
        self.assertEqual((legs, one), kept)
        self.assertEqual(list(one), list(kept[1]))
        for call in [gives, brings, change, rows_of]:
            call(deal)
            self.assertEqual(deal, ("x", tuple(kept[0])))

    def test_what_is_refused_or_asked_stays(self):
        things = [[], ["a"], ["a", "b"], [LEG, None], [LEG, list(LEG)], {}, {"a": 1}, [LEG] * 9, ([], {}), ("a", ["b"])]
        kept = copy.deepcopy(things)
        for thing in things:
            for ask in [is_name, is_amount, is_shelf]:
                ask(thing)
            for name, legs in [(thing, [LEG]), ("x", thing), (thing, thing)]:
                with self.assertRaises(HallError):
                    deal_of(name, legs)
        self.assertEqual(things, kept)

    def test_a_deal_stays_when_the_legs_change(self):
        legs = [("a", "b", "w", 5), ("b", "a", "v", 1)]
        right = ("x", tuple(legs))
        deal = deal_of("x", legs)
        legs[0] = ("c", "d", "w", 9)
        legs.append(None)
        self.assertEqual(deal, right)
        self.assertEqual(gives(deal), {("a", "w"): 5, ("b", "v"): 1})
        legs.clear()
        self.assertEqual(deal, right)

    def test_wares_told_stay_when_the_sheet_changes(self):
        one = {("a", "w"): 3}
        told = by_ware(one)
        one[("a", "w")] = 4
        one[("b", "w")] = 4
        self.assertEqual(told, {"w": 3})

    def test_what_is_told_is_the_askers_own(self):
        deal = deal_of("x", [("a", "b", "w", 5), ("b", "c", "w", 5)])
        one = {("a", "w"): 3}
        for call in [lambda: gives(deal), lambda: brings(deal), lambda: change(deal),
                     lambda: by_ware(one), lambda: by_ware({})]:
            told = call()
            right = dict(told)
            told.clear()
            told["new"] = 1
            self.assertEqual(call(), right)
        told = rows_of(deal)
        told.reverse()
        told.append(None)
        self.assertEqual(rows_of(deal), [("a", "w"), ("b", "w")])
        self.assertEqual(one, {("a", "w"): 3})

    def test_a_sheet_told_does_not_hang_on_another_told(self):
        deal = deal_of("x", [("a", "b", "w", 5)])
        given, brought, changed, rows = gives(deal), brings(deal), change(deal), rows_of(deal)
        given.clear()
        self.assertEqual(brought, {("b", "w"): 5})
        brought.clear()
        self.assertEqual(changed, {("a", "w"): -5, ("b", "w"): 5})
        self.assertEqual(rows, [("a", "w")])


if __name__ == "__main__":
    unittest.main()
