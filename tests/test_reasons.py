import itertools
import unittest

from dealknot.books import Book, called_off, empty, laid, lined, moved, offered, taken
from dealknot.errors import NotWaiting
from dealknot.going import done
from dealknot.reasons import reason
from dealknot.strikes import most, walked
from small_books import (
    GREAT, assert_refused, book_of, chain, one_deal, plainly_left, queue, ring, ring_book, small_book, turned, values)

AW, BW, CW, DW = ("a", "w"), ("b", "w"), ("c", "w"), ("d", "w")


def behind_others():
    """p is short, q stands behind p, r behind q in another row, s waits for what r brings."""
    return book_of({BW: 9, CW: 9}, one_deal("p", "a x w 1", "b x w 1"), one_deal("q", "b x w 1", "c x w 1"),
                   one_deal("r", "c d w 1"), one_deal("s", "d x w 1"))


def without_each(paper):
    return [paper[:place] + paper[place + 1:] for place in range(len(paper))]


class Reason(unittest.TestCase):
    def look_at(self, book, name, paper):
        """All that [21] says of the reason of a name that the most has not."""
        self.assertEqual(paper[-1][0], name)
        for left in [walked(book, paper), plainly_left(book, paper)]:
            self.assertIsNotNone(left)
            self.assertNotIn(name, left)
        for shorter in without_each(paper):
            for left in [walked(book, shorter), plainly_left(book, shorter)]:
                self.assertTrue(left is None or name in left)

    def test_none_for_each_name_of_the_most(self):
        for book in [ring(), laid(queue(), AW, 1), laid(chain(), DW, 1)]:
            for name in most(book)[0]:
                self.assertIsNone(reason(book, name))
        self.assertIsNone(reason(queue(), "z"))
        self.assertIsNone(reason(queue(), "m"))

    def test_one_strike(self):
        self.assertEqual(reason(queue(), "k"), [("k", AW, None)])
        self.assertEqual(reason(chain(), "s"), [("s", DW, None)])
        self.assertEqual(reason(behind_others(), "p"), [("p", AW, None)])

    def test_several_strikes_through_several_rows(self):
        paper = [("s", DW, None), ("r", CW, None), ("q", BW, None), ("p", AW, None)]
        for count, name in enumerate("srqp", start=1):
            self.assertEqual(reason(chain(), name), paper[:count])

    def test_strikes_behind_other_names(self):
        paper = [("p", AW, None), ("q", BW, "p"), ("r", CW, "q"), ("s", DW, None)]
        for count, name in enumerate("pqrs", start=1):
            self.assertEqual(reason(behind_others(), name), paper[:count])

    def test_where_a_name_can_be_struck_in_several_ways(self):
        self.look_at(chain(), "t", reason(chain(), "t"))
        book = taken(queue(), AW, 4)
        for name in ["z", "m", "k"]:
            self.look_at(book, name, reason(book, name))

    def test_strikes_that_are_needless_are_left_out(self):
        book = book_of({}, one_deal("o", "n x w 1"), one_deal("p", "a x w 1"), one_deal("q", "b a w 1"),
                       one_deal("r", "n x w 1"))
        self.assertEqual(reason(book, "p"), [("q", BW, None), ("p", AW, None)])
        self.assertEqual(reason(book, "q"), [("q", BW, None)])

    def test_no_more_of_those_that_bring_than_it_needs(self):
        for need, count in [(1, 4), (2, 3), (3, 2), (4, 1)]:
            bringers = [one_deal(name, f"{name} y w 1") for name in "abcd"]
            book = book_of({}, one_deal("z", f"y x w {need}"), *bringers)
            paper = reason(book, "z")
            self.look_at(book, "z", paper)
            self.assertEqual((len(paper), paper[-1]), (count + 1, ("z", ("y", "w"), None)))

    def test_no_more_of_those_that_bring_unlike_amounts(self):
        bringers = [one_deal(name, f"{name} y w {amount}") for name, amount in zip("abcd", [1, 2, 3, 5])]
        for need in range(1, 13):
            book = book_of({}, one_deal("z", f"y x w {need}"), *bringers)
            self.look_at(book, "z", reason(book, "z"))

    def test_what_is_laid_and_a_line_are_room(self):
        book = chain()
        self.assertEqual(reason(laid(book, CW, 1), "s"), [("s", DW, None)])
        self.assertIsNone(reason(laid(book, CW, 1), "p"))
        self.assertIsNone(reason(lined(book, AW, 1), "p"))
        self.assertEqual(reason(lined(book, AW, 1), "q")[-1], ("q", BW, None))
        self.assertEqual(reason(lined(book, AW, 1), "t")[-1][:2], ("t", AW))

    def test_a_ring_with_one_amount_too_great(self):
        book = book_of({}, one_deal("p", "a b w 4"), one_deal("q", "b c w 3"), one_deal("r", "c a w 3"))
        paper = [("p", AW, None), ("q", BW, None), ("r", CW, None)]
        for count, name in enumerate("pqr", start=1):
            self.assertEqual(reason(book, name), paper[:count])

    def test_great_amounts(self):
        legs = [f"a b w {GREAT}"] * 8
        book = book_of({AW: GREAT}, one_deal("p", *legs), one_deal("q", f"b c w {GREAT}"))
        self.assertEqual(reason(book, "p"), [("p", AW, None)])
        self.assertEqual(reason(book, "q"), [("p", AW, None), ("q", BW, None)])
        self.assertIsNone(reason(laid(book, BW, GREAT), "q"))

    def test_a_chain_of_a_hundred(self):
        names = ["".join(two) for two in itertools.product("abcdefghij", repeat=2)]
        deals = [one_deal(name, f"{name} {taker} w 1") for name, taker in zip(names, names[1:] + ["end"])]
        for order in [deals, deals[::-1]]:
            book = book_of({}, *order)
            paper = [(name, (name, "w"), None) for name in names]
            self.assertEqual(reason(book, names[-1]), paper)
            self.assertEqual(reason(book, names[49]), paper[:50])

    def test_many_books(self):
        lengths = {count: 0 for count in [0, 1, 2, 3, 4, 5]}
        for book in [small_book(seed) for seed in range(500)] + [ring_book(seed) for seed in range(150)]:
            inside = most(book)[0]
            for name in sorted(book.deals):
                paper = reason(book, name)
                if name in inside:
                    self.assertIsNone(paper)
                    lengths[0] += 1
                else:
                    self.look_at(book, name, paper)
                    lengths[min(5, len(paper))] += 1
        self.assertGreater(min(lengths.values()), 30)

    def test_a_name_that_does_not_wait(self):
        for name in ["x", "", "a", "kk", "K", "k ", "none", "w", "abcdefghi", "a\tb\n"]:
            for book in [empty(), queue(), chain(), ring()]:
                assert_refused(self, NotWaiting, reason, book, name)
        assert_refused(self, NotWaiting, reason, called_off(queue(), "k"), "k")
        assert_refused(self, NotWaiting, reason, done(queue(), ["z"]), "z")

    def test_a_name_that_waits_again(self):
        book = called_off(queue(), "k")
        assert_refused(self, NotWaiting, reason, book, "k")
        self.assertEqual(reason(offered(book, one_deal("k", "a b w 1")), "k"), [("k", AW, None)])
        self.assertIsNone(reason(offered(done(book, ["z", "m"]), one_deal("k", "b a w 2")), "k"))

    def test_a_place_in_a_row_counts(self):
        self.assertIsNone(reason(moved(queue(), AW, "k", 0), "k"))
        self.assertEqual(reason(moved(queue(), AW, "k", 0), "m"), [("m", AW, None)])

    def test_kinds(self):
        for paper in [reason(queue(), "k"), reason(chain(), "p"), reason(behind_others(), "s")]:
            self.assertIs(type(paper), list)
            for strike in paper:
                self.assertEqual((type(strike), type(strike[1]), len(strike)), (tuple, tuple, 3))


class WhoseItIs(unittest.TestCase):
    def test_what_is_handed_in_stays(self):
        for book in [queue(), ring(), chain(), behind_others()]:
            kept = values(book)
            for name in sorted(book.deals):
                reason(book, name)
            assert_refused(self, NotWaiting, reason, book, "none")
            self.assertEqual(values(book), kept)

    def test_what_is_told_is_the_askers_own(self):
        book = behind_others()
        for name in sorted(book.deals):
            told, other = reason(book, name), reason(book, name)
            right = list(other)
            told.reverse()
            told.append("new")
            self.assertEqual(other, right)
            self.assertEqual(reason(book, name), right)

    def test_what_was_told_stays_whatever_is_done_later(self):
        book = behind_others()
        told = reason(book, "s")
        right = list(told)
        reason(laid(called_off(book, "p"), DW, 3), "s")
        self.assertEqual(told, right)

    def test_the_same_one_each_time_for_equal_books(self):
        for book in [small_book(seed) for seed in range(200)] + [ring_book(seed) for seed in range(100)]:
            other = Book(*turned(book))
            for name in sorted(book.deals):
                self.assertEqual(reason(other, name), reason(book, name))
                self.assertEqual(reason(book, name), reason(book, name))


if __name__ == "__main__":
    unittest.main()
