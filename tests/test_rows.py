import copy
import itertools
import unittest

from dealknot.errors import NotWaiting
from dealknot.rows import broken, entered, left, put_to
from small_books import GREAT, assert_refused, keeps_rows, one_deal, sets_of

AW, AV, BW, CW = ("a", "w"), ("a", "v"), ("b", "w"), ("c", "w")
BEYOND = [5, 6, 7, 300, 2 ** 31, 2 ** 63 - 1, 2 ** 63, 2 ** 64, 10 ** 59, GREAT]


class Entered(unittest.TestCase):
    def test_into_no_rows(self):
        self.assertEqual(entered({}, one_deal("x", "a b w 3")), {AW: ["x"]})

    def test_at_the_end_of_a_row(self):
        rows = {AW: ["q", "p"], BW: ["p"]}
        self.assertEqual(entered(rows, one_deal("a", "a b w 3")), {AW: ["q", "p", "a"], BW: ["p"]})

    def test_into_each_of_its_own_rows_and_no_other(self):
        rows = {AW: ["p"], CW: ["p", "q"]}
        deal = one_deal("x", "a b w 3", "b c w 1", "a c v 2")
        self.assertEqual(entered(rows, deal), {AW: ["p", "x"], AV: ["x"], BW: ["x"], CW: ["p", "q"]})

    def test_once_where_several_legs_give_from_a_shelf(self):
        deal = one_deal("x", "a b w 3", "a c w 1", "a b w 3")
        self.assertEqual(entered({AW: ["p"]}, deal), {AW: ["p", "x"]})

    def test_also_where_it_gets_all_back(self):
        self.assertEqual(entered({}, one_deal("x", "a b w 3", "b a w 3")), {AW: ["x"], BW: ["x"]})

    def test_not_into_the_rows_to_which_it_brings(self):
        self.assertEqual(entered({BW: ["p"]}, one_deal("x", "a b w 3")), {AW: ["x"], BW: ["p"]})

    def test_its_name_may_stand_in_rows_that_are_not_its_own(self):
        self.assertEqual(entered({BW: ["x"]}, one_deal("x", "a b w 3")), {AW: ["x"], BW: ["x"]})

    def test_a_hundred_one_behind_the_other(self):
        rows, names = {}, ["".join(two) for two in itertools.product("zyxwvutsrq", "abcdefghij")]
        for name in names:
            rows = entered(rows, one_deal(name, "a b w 3", "a b v 3"))
        self.assertEqual(rows, {AW: names, AV: names})


class Left(unittest.TestCase):
    ROWS = {AW: ["p", "q", "r"], BW: ["r", "p"], CW: ["q"]}

    def test_one_name(self):
        self.assertEqual(left(self.ROWS, ["p"]), {AW: ["q", "r"], BW: ["r"], CW: ["q"]})
        self.assertEqual(left(self.ROWS, ["r"]), {AW: ["p", "q"], BW: ["p"], CW: ["q"]})

    def test_several_names(self):
        for names in [["p", "r"], ["r", "p"]]:
            self.assertEqual(left(self.ROWS, names), {AW: ["q"], CW: ["q"]})

    def test_names_that_stand_nowhere(self):
        for names in [[], ["x"], ["x", "pq", "a", ""]]:
            self.assertEqual(left(self.ROWS, names), self.ROWS)
        self.assertEqual(left(self.ROWS, ["x", "p", "y"]), {AW: ["q", "r"], BW: ["r"], CW: ["q"]})
        self.assertEqual(left({}, ["p"]), {})
        self.assertEqual(left({}, []), {})

    def test_the_last_name_of_a_row(self):
        self.assertEqual(left({AW: ["p"]}, ["p"]), {})
        self.assertEqual(left(self.ROWS, ["q"]), {AW: ["p", "r"], BW: ["r", "p"]})
        self.assertNotIn(CW, left(self.ROWS, ["q"]))

    def test_all_names(self):
        self.assertEqual(left(self.ROWS, ["p", "q", "r"]), {})

    def test_the_others_keep_their_order(self):
        row = list("hgfedcba")
        for names in sets_of("abcdefgh"):
            staying = [name for name in row if name not in names]
            self.assertEqual(left({AW: row}, names), {AW: staying} if staying else {})


class PutTo(unittest.TestCase):
    ROWS = {AW: ["s", "r", "q", "p", "o"], BW: ["q", "s"], CW: ["z"]}

    def put(self, name, place):
        told = put_to(self.ROWS, AW, name, place)
        self.assertEqual((told[BW], told[CW], len(told)), (["q", "s"], ["z"], 3))
        return told[AW]

    def test_to_the_first_place(self):
        self.assertEqual(self.put("p", 0), ["p", "s", "r", "q", "o"])
        self.assertEqual(self.put("s", 0), ["s", "r", "q", "p", "o"])
        self.assertEqual(self.put("o", 0), ["o", "s", "r", "q", "p"])

    def test_to_a_place_in_the_middle(self):
        self.assertEqual(self.put("s", 2), ["r", "q", "s", "p", "o"])
        self.assertEqual(self.put("o", 2), ["s", "r", "o", "q", "p"])
        self.assertEqual(self.put("q", 2), ["s", "r", "q", "p", "o"])
        self.assertEqual(self.put("r", 3), ["s", "q", "p", "r", "o"])
        self.assertEqual(self.put("p", 1), ["s", "p", "r", "q", "o"])

    def test_to_the_last_place(self):
        self.assertEqual(self.put("s", 4), ["r", "q", "p", "o", "s"])
        self.assertEqual(self.put("o", 4), ["s", "r", "q", "p", "o"])

    def test_beyond_the_end(self):
        for place in BEYOND:
            for name in "srqpo":
                with self.subTest((name, place)):
                    others = [other for other in self.ROWS[AW] if other != name]
                    self.assertEqual(self.put(name, place), others + [name])

    def test_as_many_of_the_others_ahead_as_told(self):
        for name in "srqpo":
            for place in range(5):
                row = self.put(name, place)
                self.assertEqual(row.index(name), place)
                self.assertEqual([other for other in row if other != name],
                                 [other for other in self.ROWS[AW] if other != name])

    def test_a_row_of_one(self):
        for place in [0, 1, GREAT]:
            self.assertEqual(put_to(self.ROWS, CW, "z", place), self.ROWS)

    def test_a_name_that_does_not_stand_in_the_row(self):
        for place in [0, 1, 5, GREAT]:
            assert_refused(self, NotWaiting, put_to, self.ROWS, AW, "x", place)
            assert_refused(self, NotWaiting, put_to, self.ROWS, AW, "z", place)
            assert_refused(self, NotWaiting, put_to, self.ROWS, BW, "p", place)
            assert_refused(self, NotWaiting, put_to, self.ROWS, CW, "s", place)
            assert_refused(self, NotWaiting, put_to, self.ROWS, AV, "s", place)
            assert_refused(self, NotWaiting, put_to, {}, AW, "s", place)


class Broken(unittest.TestCase):
    ROWS = {BW: ["q", "p", "s"], AW: ["p", "q", "r"], AV: ["t"]}

    def test_no_names(self):
        self.assertIsNone(broken(self.ROWS, []))
        self.assertIsNone(broken({}, []))

    def test_all_names(self):
        for names in itertools.permutations("pqrst"):
            self.assertIsNone(broken(self.ROWS, list(names)))

    def test_beginnings_of_rows(self):
        for names in [["t"], ["p", "q"], ["q", "p"], ["r", "q", "p"], ["p", "s", "q"], ["t", "q", "p"]]:
            self.assertIsNone(broken(self.ROWS, names))
        self.assertIsNone(broken({AW: ["p", "q", "r"]}, ["p"]))

    def test_names_that_stand_in_no_row(self):
        self.assertIsNone(broken(self.ROWS, ["x", "y"]))
        self.assertIsNone(broken({}, ["p"]))
        self.assertEqual(broken(self.ROWS, ["x", "s"]), (BW, "q", "s"))

    def test_the_first_shelf_house_before_ware(self):
        self.assertEqual(broken(self.ROWS, ["p"]), (BW, "q", "p"))
        self.assertEqual(broken(self.ROWS, ["q"]), (AW, "p", "q"))
        self.assertEqual(broken(self.ROWS, ["r", "s"]), (AW, "p", "r"))
        shelves = [("a", "z"), ("ab", "a"), ("b", "a"), ("a", "aa"), ("a", "b"), ("b", "z")]
        for some in itertools.permutations(shelves, 3):
            rows = {shelf: ["p", "q"] for shelf in some}
            self.assertEqual(broken(rows, ["q"]), (min(some), "p", "q"))

    def test_a_row_that_is_kept_is_passed_over(self):
        rows = {AW: ["p", "q"], BW: ["r", "p"], AV: ["q"]}
        self.assertEqual(broken(rows, ["p", "q"]), (BW, "r", "p"))

    def test_the_first_ahead_that_is_not_and_the_first_behind_it_that_is(self):
        rows = {AW: list("pqrstuv")}
        self.assertEqual(broken(rows, list("pqsu")), (AW, "r", "s"))
        self.assertEqual(broken(rows, list("pv")), (AW, "q", "v"))
        self.assertEqual(broken(rows, list("vut")), (AW, "p", "t"))
        self.assertEqual(broken(rows, list("qv")), (AW, "p", "q"))

    def test_every_set_of_names(self):
        told = 0
        for one, other in itertools.product(itertools.permutations("pqr"), itertools.permutations("qrs")):
            rows = {BW: list(other), AW: list(one)}
            for names in sets_of("pqrs"):
                breach = broken(rows, names)
                self.assertEqual(breach is None, keeps_rows(rows, names))
                if breach is not None:
                    told += 1
                    shelf, ahead, behind = breach
                    row = rows[shelf]
                    self.assertTrue(shelf == AW or broken({AW: rows[AW]}, names) is None)
                    self.assertTrue(all(name in names for name in row[:row.index(ahead)]))
                    self.assertNotIn(ahead, names)
                    self.assertIn(behind, names)
                    between = row[row.index(ahead) + 1:row.index(behind)]
                    self.assertTrue(row.index(ahead) < row.index(behind))
                    self.assertFalse(any(name in names for name in between))
        self.assertGreater(told, 100)

    def test_a_tuple(self):
        self.assertIs(type(broken(self.ROWS, ["q"])), tuple)


class WhoseItIs(unittest.TestCase):
    DEAL = one_deal("x", "a b w 3", "c b w 3")
    CALLS = [lambda rows: entered(rows, WhoseItIs.DEAL), lambda rows: left(rows, []), lambda rows: left(rows, ["p"]),
             lambda rows: left(rows, ["zz"]), lambda rows: put_to(rows, AW, "p", 1),
             lambda rows: put_to(rows, AW, "p", 0), lambda rows: put_to(rows, BW, "r", GREAT)]

    def rows(self):
        return {AW: ["p", "q"], BW: ["r", "p"], AV: ["s"]}

    def test_what_is_handed_in_stays(self):
        for place, call in enumerate(self.CALLS + [lambda rows: broken(rows, ["q"])]):
            with self.subTest(place):
                rows = self.rows()
                call(rows)
                self.assertEqual(rows, self.rows())
                self.assertEqual(list(rows), list(self.rows()))

    def test_names_handed_in_stay(self):
        names = ["q", "p", "x"]
        left(self.rows(), names)
        broken(self.rows(), names)
        self.assertEqual(names, ["q", "p", "x"])

    def test_what_is_refused_stays(self):
        rows = self.rows()
        assert_refused(self, NotWaiting, put_to, rows, AW, "r", 0)
        assert_refused(self, NotWaiting, put_to, rows, CW, "p", 0)
        self.assertEqual(rows, self.rows())

    def test_what_was_told_stays_when_what_was_handed_in_changes(self):
        for place, call in enumerate(self.CALLS):
            with self.subTest(place):
                rows = self.rows()
                told = call(rows)
                right = copy.deepcopy(told)
                for row in rows.values():
                    row.append("new")
                    row.reverse()
                rows[("new", "new")] = ["new"]
                self.assertEqual(told, right)
                rows.clear()
                self.assertEqual(told, right)

    def test_no_list_is_one_that_was_handed_in(self):
        for place, call in enumerate(self.CALLS):
            with self.subTest(place):
                rows = self.rows()
                told = call(rows)
                self.assertIsNot(told, rows)
                for row in told.values():
                    self.assertIs(type(row), list)
                    self.assertFalse(any(row is other for other in rows.values()))

    def test_no_two_lists_told_are_one(self):
        for call in self.CALLS:
            rows = self.rows()
            lists = list(call(rows).values()) + list(call(rows).values())
            for one, other in itertools.combinations(lists, 2):
                self.assertIsNot(one, other)

    def test_names_told_stay_when_names_change(self):
        names = ["p"]
        told, breach = left(self.rows(), names), broken(self.rows(), names)
        names.append("q")
        self.assertEqual(told, {AW: ["q"], BW: ["r"], AV: ["s"]})
        self.assertEqual(breach, (BW, "r", "p"))


if __name__ == "__main__":
    unittest.main()
