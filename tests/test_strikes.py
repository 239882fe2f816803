import itertools
import random
import unittest

from dealknot.books import Book, called_off, empty, laid, lined, moved, offered, taken
from dealknot.going import done, goes
from dealknot.strikes import can_strike, most, walked
from small_books import (
    GREAT, all_strikes, book_of, chain, greatest, one_deal, plainly_goes, plainly_holds, queue, ring, sets_of,
    small_book, turned, values)

AW, BW, CW, AV = ("a", "w"), ("b", "w"), ("c", "w"), ("a", "v")


class CanStrike(unittest.TestCase):
    def test_of_the_empty_book(self):
        self.assertEqual(can_strike(empty(), []), [])
        self.assertEqual(can_strike(laid(empty(), AW, 4), []), [])

    def test_none_struck_and_nothing_lacks(self):
        self.assertEqual(can_strike(ring(), []), [])
        self.assertEqual(can_strike(laid(queue(), AW, 1), []), [])

    def test_for_lack(self):
        self.assertEqual(can_strike(queue(), []), ["k"])
        self.assertEqual(can_strike(taken(queue(), AW, 1), []), ["k", "m"])
        self.assertEqual(can_strike(taken(queue(), AW, 3), []), ["k", "m"])
        self.assertEqual(can_strike(taken(queue(), AW, 4), []), ["k", "m", "z"])
        self.assertEqual(can_strike(lined(queue(), AW, 1), []), [])

    def test_a_stock_below_0(self):
        book = taken(lined(queue(), AW, 4), AW, 8)
        self.assertEqual((book.stock[AW], book.lines[AW]), (-3, 4))
        self.assertEqual(can_strike(book, []), ["k", "m", "z"])
        self.assertEqual(can_strike(lined(book, AW, 5), []), ["k", "m"])

    def test_those_ahead_count_also_where_they_are_struck(self):
        book = book_of({AW: 5}, one_deal("p", "a b w 2"), one_deal("q", "a b w 3"), one_deal("r", "a b w 1"))
        self.assertEqual(can_strike(book, []), ["r"])
        self.assertEqual(can_strike(book, ["q"]), ["r"])
        self.assertIsNotNone(walked(book, [("r", AW, None)], ["p", "r"]))
        self.assertIsNotNone(walked(book, [("r", AW, None)], ["r"]))

    def test_what_those_behind_bring_counts(self):
        book = book_of({}, one_deal("p", "a b w 2"), one_deal("q", "a c w 1", "c a w 3"))
        self.assertEqual(can_strike(book, []), ["q"])
        self.assertEqual(can_strike(laid(book, CW, 3), []), [])
        self.assertEqual(can_strike(laid(book, CW, 3), ["q"]), ["p"])

    def test_what_the_deal_itself_brings_counts(self):
        book = book_of({}, one_deal("p", "a b w 3", "b a w 3"))
        self.assertEqual(can_strike(book, []), [])
        self.assertEqual(can_strike(offered(empty(), one_deal("p", "a b w 3", "b a w 2")), []), ["p"])

    def test_what_a_struck_one_brings_does_not_count(self):
        self.assertEqual(can_strike(ring(), ["p"]), ["q"])
        self.assertEqual(can_strike(ring(), ["q"]), ["r"])
        self.assertEqual(can_strike(laid(ring(), BW, 3), ["p"]), [])
        self.assertEqual(can_strike(laid(ring(), BW, 2), ["p"]), ["q"])

    def test_what_a_deal_that_can_be_struck_brings_counts_until_it_is(self):
        self.assertEqual(can_strike(chain(), []), ["s", "t"])
        self.assertEqual(can_strike(chain(), ["s"]), ["r", "t"])
        self.assertEqual(can_strike(chain(), ["s", "r"]), ["q", "t"])

    def test_for_standing_behind_a_struck_name(self):
        book = laid(queue(), AW, 100)
        self.assertEqual(can_strike(book, ["z"]), ["k", "m"])
        self.assertEqual(can_strike(book, ["m"]), ["k"])
        self.assertEqual(can_strike(book, ["k"]), [])
        self.assertEqual(can_strike(book, ["k", "z"]), ["m"])

    def test_in_any_of_its_rows(self):
        book = book_of({AW: 9, BW: 9}, one_deal("p", "a c w 1"), one_deal("q", "b c w 1", "a c w 1"))
        self.assertEqual(can_strike(book, []), [])
        self.assertEqual(can_strike(book, ["p"]), ["q"])
        self.assertEqual(can_strike(taken(book, BW, 9), []), ["q"])
        self.assertEqual(can_strike(moved(book, AW, "q", 0), ["p"]), [])
        self.assertEqual(can_strike(moved(book, AW, "q", 0), ["q"]), ["p"])

    def test_nothing_that_is_struck_already(self):
        self.assertEqual(can_strike(queue(), ["k"]), [])
        self.assertEqual(can_strike(ring(), ["p", "q", "r"]), [])
        self.assertEqual(can_strike(ring(), ["r", "p"]), ["q"])

    def test_each_name_once_and_sorted(self):
        book = book_of({}, one_deal("zz", "a c w 1", "b c w 1", "b c v 1"), one_deal("z", "b c w 1"),
                       one_deal("a", "a c w 1", "b c w 1", "b c v 1"))
        self.assertEqual(can_strike(book, []), ["a", "z", "zz"])
        self.assertEqual(can_strike(book, ["z"]), ["a", "zz"])

    def test_every_struck_set_of_many_books(self):
        kinds = {(lack, behind): 0 for lack in [False, True] for behind in [False, True]}
        for seed in range(250):
            book = small_book(seed)
            strikes = all_strikes(book)
            for struck in sets_of(book.deals):
                holding = [strike for strike in strikes if plainly_holds(book, struck, strike)]
                self.assertEqual(can_strike(book, struck), sorted({strike[0] for strike in holding}))
                self.assertEqual(can_strike(book, struck[::-1]), can_strike(book, struck))
                for name in book.deals:
                    others = [strike[2] for strike in holding if strike[0] == name]
                    kinds[(None in others, any(other is not None for other in others))] += 1
        self.assertGreater(min(kinds.values()), 100)


class Most(unittest.TestCase):
    def test_of_the_empty_book(self):
        self.assertEqual(most(empty()), ([], []))
        self.assertEqual(most(empty(), []), ([], []))
        self.assertEqual(most(empty(), None), ([], []))

    def test_all_go(self):
        self.assertEqual(most(ring()), (["p", "q", "r"], []))
        self.assertEqual(most(laid(queue(), AW, 1)), (["k", "m", "z"], []))

    def test_some_go(self):
        self.assertEqual(most(queue()), (["m", "z"], [("k", AW, None)]))

    def test_none_goes(self):
        names, paper = most(chain())
        self.assertEqual(names, [])
        self.assertEqual(sorted(strike[0] for strike in paper), ["p", "q", "r", "s", "t"])
        self.assertEqual(walked(chain(), paper), [])

    def test_a_chain_of_a_hundred_against_the_order_of_shelves(self):
        names = ["".join(two) for two in itertools.product("abcdefghij", repeat=2)]
        for order in [names, names[::-1]]:
            deals = [one_deal(name, name + " " + taker + " w 1") for name, taker in zip(order, order[1:] + ["end"])]
            book = book_of({}, *deals)
            told, paper = most(book)
            self.assertEqual((told, len(paper)), ([], 100))
            self.assertEqual(walked(book, paper), [])
            book = laid(book, (order[0], "w"), 1)
            self.assertEqual(most(book), (names, []))
            book = called_off(book, order[50])
            told, paper = most(book)
            self.assertEqual(told, sorted(order[:50]))
            self.assertEqual(walked(book, paper), told)

    def test_a_ring_of_a_hundred_in_one_row_each(self):
        names = ["".join(two) for two in itertools.product("abcdefghij", repeat=2)]
        deals = [one_deal(name, name + " " + taker + " w 1") for name, taker in zip(names, names[1:] + names[:1])]
        book = book_of({}, *deals)
        self.assertEqual(most(book), (names, []))
        self.assertEqual(most(book, names[1:])[0], [])

    def test_great_amounts(self):
        deals = [one_deal(name, *["a b w " + str(GREAT)] * 8) for name in ["x", "y"]]
        book = book_of({}, *deals)
        for turn in range(15):
            book = laid(book, AW, GREAT)
        self.assertEqual(most(book), (["x"], [("y", AW, None)]))
        self.assertEqual(most(laid(book, AW, GREAT - 1)), (["x"], [("y", AW, None)]))
        self.assertEqual(most(laid(book, AW, GREAT)), (["x", "y"], []))

    def test_among_some_names(self):
        book = laid(queue(), AW, 1)
        self.assertEqual(most(book, ["z", "m"]), (["m", "z"], []))
        self.assertEqual(most(book, ["z"]), (["z"], []))
        self.assertEqual(most(book, ["z", "k"]), (["z"], [("k", AW, "m")]))
        self.assertEqual(most(book, ["k", "m"])[0], [])
        self.assertEqual(most(ring(), ["p", "q"])[0], [])
        self.assertEqual(most(laid(ring(), AW, 3), ["q", "p"])[0], ["p", "q"])

    def test_among_all_names(self):
        for book in [ring(), queue(), chain()]:
            self.assertEqual(most(book, sorted(book.deals)), most(book))

    def test_among_no_names(self):
        for book in [ring(), queue(), chain()]:
            self.assertEqual(most(book, []), ([], []))

    def test_as_trying_every_set_says(self):
        sizes = {}
        for seed in range(1500):
            book = small_book(seed)
            names, paper = most(book)
            with self.subTest(seed):
                self.assertEqual(names, greatest(book, list(book.deals)))
                self.assertEqual(walked(book, paper), names)
                self.assertEqual(len(paper), len(book.deals) - len(names))
                self.assertEqual(can_strike(book, [strike[0] for strike in paper]), [])
            part = "all" if len(names) == len(book.deals) else "some" if names else "none"
            sizes[part] = sizes.get(part, 0) + 1
        self.assertGreater(min(sizes.values()), 100)
        self.assertEqual(len(sizes), 3)

    def test_as_trying_every_set_among_some_says(self):
        for seed in range(200):
            book = small_book(seed)
            for among in sets_of(book.deals):
                for order in [among, among[::-1]]:
                    names, paper = most(book, order)
                    self.assertEqual(names, greatest(book, among))
                    self.assertEqual(walked(book, paper, order), names)
                    self.assertEqual(len(paper), len(among) - len(names))

    def test_each_strike_of_the_paper_holds_by_those_ahead_of_it(self):
        for seed in range(400):
            book = small_book(seed)
            struck = []
            for strike in most(book)[1]:
                self.assertTrue(plainly_holds(book, struck, strike))
                struck.append(strike[0])

    def test_two_sets_that_go_go_together(self):
        pairs = 0
        for seed in range(600):
            book = small_book(seed)
            going = [names for names in sets_of(book.deals) if goes(book, names)]
            for one, other in itertools.combinations(going, 2):
                self.assertIs(goes(book, sorted(set(one) | set(other))), True)
                pairs += not set(one) <= set(other) and not set(other) <= set(one)
        self.assertGreater(pairs, 100)

    def test_in_whatever_order_strikes_are_made(self):
        for seed in range(300):
            book = small_book(seed)
            right = most(book)[0]
            chance = random.Random(seed)
            for turn in range(5):
                paper, struck = [], []
                holding = [strike for strike in all_strikes(book) if plainly_holds(book, struck, strike)]
                while holding:
                    paper.append(chance.choice(holding))
                    struck.append(paper[-1][0])
                    holding = [strike for strike in all_strikes(book) if plainly_holds(book, struck, strike)]
                self.assertEqual(walked(book, paper), right)

    def test_behind_the_most_nothing_goes(self):
        for seed in range(400):
            book = small_book(seed)
            names, paper = most(book)
            self.assertEqual(most(done(book, names))[0], [])

    def test_kinds(self):
        for told in [most(queue()), most(ring()), most(ring(), ["p"]), most(empty())]:
            self.assertIs(type(told), tuple)
            self.assertEqual([type(part) for part in told], [list, list])
            for strike in told[1]:
                self.assertIs(type(strike), tuple)
                self.assertIs(type(strike[1]), tuple)


class Walked(unittest.TestCase):
    def test_a_paper(self):
        self.assertEqual(walked(queue(), [("k", AW, None)]), ["m", "z"])
        paper = [("s", ("d", "w"), None), ("r", CW, None), ("q", BW, None), ("p", AW, None), ("t", AW, "p")]
        for count, left in enumerate([list("pqrst"), list("pqrt"), list("pqt"), list("pt"), ["t"], []]):
            self.assertEqual(walked(chain(), paper[:count]), left)

    def test_the_empty_list(self):
        self.assertEqual(walked(empty(), []), [])
        self.assertEqual(walked(queue(), []), ["k", "m", "z"])
        self.assertEqual(walked(queue(), [], None), ["k", "m", "z"])
        self.assertEqual(walked(queue(), [], ["z", "k"]), ["k", "z"])
        self.assertEqual(walked(queue(), [], []), [])

    def test_a_name_that_does_not_wait(self):
        for name in ["x", "", "a", "kk", "K", "k ", "none"]:
            self.assertIsNone(walked(queue(), [(name, AW, None)]))
            self.assertIsNone(walked(queue(), [("k", AW, None), (name, AW, "k")]))
        self.assertIsNone(walked(called_off(queue(), "k"), [("k", AW, None)]))
        self.assertIsNone(walked(empty(), [("k", AW, None)]))

    def test_a_name_struck_twice(self):
        self.assertIsNone(walked(queue(), [("k", AW, None), ("k", AW, None)]))
        paper = [("t", AW, None), ("s", ("d", "w"), None), ("t", AW, None)]
        self.assertEqual(walked(chain(), paper[:2]), ["p", "q", "r"])
        self.assertIsNone(walked(chain(), paper))

    def test_a_shelf_in_whose_row_it_does_not_stand(self):
        for shelf in [BW, CW, AV, ("x", "x"), ("", ""), ("A", "w"), ("w", "a"), ("a ", "w")]:
            self.assertIsNone(walked(queue(), [("k", shelf, None)]))
            self.assertIsNone(walked(queue(), [("k", AW, None), ("m", shelf, "k")]))
        book = book_of({AW: 9, BW: 9}, one_deal("p", "a c w 1"), one_deal("q", "b c w 1", "a c w 1"),
                       one_deal("r", "b c w 1"))
        self.assertEqual(walked(book, [("q", AW, "p"), ("r", BW, "q")], ["q", "r"]), [])
        self.assertIsNone(walked(book, [("q", BW, "p"), ("r", BW, "q")], ["q", "r"]))
        self.assertIsNone(walked(book, [("q", AW, "p"), ("r", AW, "q")], ["q", "r"]))
        self.assertIsNone(walked(book, [("q", AW, "p"), ("r", BW, "p")], ["q", "r"]))

    def test_an_other_that_is_not_struck(self):
        for other in ["z", "m", "k", "x", "", "none"]:
            self.assertIsNone(walked(queue(), [("k", AW, other)]))
        self.assertIsNone(walked(laid(queue(), AW, 1), [("k", AW, "m")]))

    def test_an_other_that_stands_behind_it(self):
        self.assertIsNone(walked(queue(), [("k", AW, None), ("m", AW, "k")]))
        self.assertIsNone(walked(queue(), [("k", AW, None), ("z", AW, "k")]))
        self.assertEqual(walked(moved(queue(), AW, "k", 0), [("m", AW, None)]), ["k", "z"])

    def test_an_other_that_stands_ahead_in_another_row_alone(self):
        book = book_of({AW: 1, BW: 9}, one_deal("p", "b c w 1", "c a v 1"), one_deal("q", "b c w 1", "a c w 1"))
        self.assertEqual(walked(book, [("p", ("c", "v"), None), ("q", BW, "p")]), [])
        self.assertIsNone(walked(book, [("p", ("c", "v"), None), ("q", AW, "p")]))

    def test_itself_as_other(self):
        for book in [queue(), taken(queue(), AW, 5), ring()]:
            for name in book.deals:
                for shelf in book.rows:
                    self.assertIsNone(walked(book, [(name, shelf, name)]))

    def test_none_where_nothing_lacks(self):
        self.assertIsNone(walked(queue(), [("m", AW, None)]))
        self.assertIsNone(walked(queue(), [("z", AW, None)]))
        self.assertIsNone(walked(laid(queue(), AW, 1), [("k", AW, None)]))
        self.assertIsNone(walked(lined(queue(), AW, 1), [("k", AW, None)]))
        self.assertIsNone(walked(ring(), [("p", AW, None)]))

    def test_the_text_none_is_not_nothing(self):
        book = book_of({AW: 1}, one_deal("none", "a b w 2"), one_deal("p", "a b w 1"))
        self.assertEqual(walked(book, [("none", AW, None), ("p", AW, "none")]), [])
        self.assertIsNone(walked(book, [("p", AW, "none")]))
        self.assertIsNone(walked(queue(), [("k", AW, "None")]))
        self.assertIsNone(walked(queue(), [("k", AW, "none")]))

    def test_none_is_right_too_behind_a_struck_name(self):
        book = taken(queue(), AW, 4)
        for other in [None, "z", "m"]:
            self.assertEqual(walked(book, [("z", AW, None), ("m", AW, "z"), ("k", AW, other)]), [])
        self.assertEqual(walked(book, [("k", AW, None), ("m", AW, None), ("z", AW, None)]), [])

    def test_an_order_in_which_one_does_not_hold_yet(self):
        paper = [("s", ("d", "w"), None), ("r", CW, None), ("q", BW, None), ("p", AW, None), ("t", AW, "p")]
        right = 0
        for order in itertools.permutations(paper):
            struck, holds = [], True
            for strike in order:
                holds = holds and plainly_holds(chain(), struck, strike)
                struck.append(strike[0])
            right += holds
            self.assertEqual(walked(chain(), list(order)), [] if holds else None)
        self.assertEqual(right, 1)
        self.assertIsNone(walked(queue(), [("m", AW, "z"), ("z", AW, None)]))

    def test_among_some_names(self):
        book = laid(queue(), AW, 1)
        self.assertEqual(walked(book, [("k", AW, "m")], ["z", "k"]), ["z"])
        self.assertEqual(walked(book, [("k", AW, "z"), ("m", AW, "z")], ["k", "m"]), [])
        self.assertEqual(walked(book, [("m", AW, "z")], ["k", "m"]), ["k"])
        self.assertEqual(walked(ring(), [("r", CW, None), ("p", AW, None)], ["p", "r"]), [])
        self.assertEqual(walked(ring(), [("r", CW, None)], ["r", "p"]), ["p"])

    def test_among_some_names_what_does_not_hold(self):
        book = laid(queue(), AW, 1)
        self.assertIsNone(walked(book, [("k", AW, "z")], ["z", "k"]))
        self.assertIsNone(walked(book, [("m", AW, "z")], ["z", "k"]))
        self.assertIsNone(walked(book, [("m", AW, None)], ["z", "k"]))
        self.assertIsNone(walked(book, [("x", AW, "m")], ["z", "k"]))
        self.assertIsNone(walked(book, [("z", AW, "m")], ["z", "k"]))
        self.assertIsNone(walked(ring(), [("p", AW, None), ("r", CW, None)], ["p", "r"]))
        self.assertIsNone(walked(ring(), [("q", BW, None)], ["p", "r"]))
        self.assertIsNone(walked(ring(), [("q", BW, None)], []))

    def test_what_is_no_paper_stays_none_with_a_right_end(self):
        self.assertIsNone(walked(queue(), [("x", AW, None), ("k", AW, None)]))
        self.assertIsNone(walked(queue(), [("k", AW, None), ("x", AW, None)]))

    def test_every_strike_behind_every_paper_of_many_books(self):
        told = {True: 0, False: 0}
        for seed in range(150):
            book = small_book(seed)
            for among in [None] + sets_of(book.deals)[::3]:
                paper = most(book, among)[1]
                inside = sorted(book.deals if among is None else among)
                for count in range(len(paper) + 1):
                    struck = [name for name in book.deals if name not in inside] + [one[0] for one in paper[:count]]
                    for strike in all_strikes(book):
                        holds = plainly_holds(book, struck, strike)
                        left = [name for name in inside if name not in struck + [strike[0]]]
                        self.assertEqual(walked(book, paper[:count] + [strike], among), left if holds else None)
                        told[holds] += 1
        self.assertGreater(min(told.values()), 1000)

    def test_no_set_that_goes_has_a_name_that_a_paper_strikes(self):
        for seed in range(300):
            book = small_book(seed)
            paper = most(book)[1]
            going = {name for names in sets_of(book.deals) if plainly_goes(book, names) for name in names}
            self.assertFalse(going & {strike[0] for strike in paper})


class WhoseItIs(unittest.TestCase):
    def test_what_is_handed_in_stays(self):
        book, struck, among, paper = chain(), ["s", "p"], ["r", "q", "t"], [("t", AW, "p"), ("r", CW, None)]
        kept = values(book)
        can_strike(book, struck)
        most(book)
        most(book, among)
        self.assertEqual(walked(book, paper, among), ["q"])
        self.assertIsNone(walked(book, paper))
        self.assertEqual(values(book), kept)
        self.assertEqual((struck, among), (["s", "p"], ["r", "q", "t"]))
        self.assertEqual(paper, [("t", AW, "p"), ("r", CW, None)])

    def test_what_was_told_stays_when_what_was_handed_in_changes(self):
        among, struck = ["k", "z"], ["z"]
        names, paper = most(queue(), among)
        left, able = walked(queue(), [], among), can_strike(queue(), struck)
        right = list(paper)
        among.append("m")
        struck.clear()
        self.assertEqual((names, paper, left, able), (["z"], right, ["k", "z"], ["k", "m"]))

    def test_what_is_told_is_the_askers_own(self):
        book = queue()
        for call in [lambda: can_strike(book, []), lambda: most(book)[0], lambda: most(book)[1],
                     lambda: most(book, ["z"])[0], lambda: most(book, [])[0], lambda: most(book, [])[1],
                     lambda: walked(book, []), lambda: walked(book, [], ["z"])]:
            told = call()
            right = list(told)
            told.append("new")
            told.reverse()
            self.assertEqual(call(), right)
        names, paper = most(ring(), [])
        self.assertIsNot(names, paper)

    def test_the_lists_told_are_not_those_handed_in(self):
        among, paper = ["z"], []
        self.assertIsNot(most(queue(), among)[0], among)
        self.assertIsNot(walked(queue(), paper, among), among)
        self.assertIsNot(walked(empty(), paper), paper)

    def test_the_same_one_each_time_for_equal_books(self):
        for seed in range(400):
            book = small_book(seed)
            other = Book(*turned(book))
            self.assertEqual(values(other), values(book))
            self.assertEqual(most(other), most(book))
            self.assertEqual(most(book), most(book))
            among = sorted(book.deals)[::2]
            self.assertEqual(most(other, list(among)), most(book, among))


if __name__ == "__main__":
    unittest.main()
