import itertools
import unittest

from dealknot.books import Book, called_off, empty, laid, lined, moved, offered, taken
from dealknot.errors import NoName, NotWaiting
from dealknot.going import done
from dealknot.strikes import most, walked
from dealknot.wants import spare, want
from small_books import (
    GREAT, NOT_SHELVES, assert_refused, book_of, chain, greatest, legs_sum, one_deal, plainly_left, queue, ring,
    ring_book, room_of, shelves_of, small_book, turned, values)

AW, BW, CW, DW, NEVER = ("a", "w"), ("b", "w"), ("c", "w"), ("d", "w"), ("never", "named")


def with_more(book, shelf, amount):
    """The book with so much more (or less) stock on the shelf: also 0, and numbers of more than sixty figures."""
    stock = dict(book.stock)
    stock[shelf] = stock.get(shelf, 0) + amount
    return Book({one: number for one, number in stock.items() if number != 0}, book.lines, book.deals, book.rows)


def waiting_for(name):
    """The deal of this name goes once another one brings, which gives 3 from a."""
    return book_of({}, one_deal("p", "a b w 3"), one_deal(name, "b c w 3"))


class Looked(unittest.TestCase):
    def look_at_paper(self, book, name, paper):
        for left in [walked(book, paper), plainly_left(book, paper)]:
            self.assertIsNotNone(left)
            self.assertNotIn(name, left)

    def look_at(self, book, name, shelf, told):
        """All that [22] says of what is told, but that an amount of None is right."""
        amount, names, paper = told
        if amount is None:
            self.assertEqual(names, [])
            self.look_at_paper(book, name, paper)
            self.assertEqual([strike for strike in paper if strike[1] == shelf and strike[2] is None], [])
        else:
            self.assertEqual(names, most(with_more(book, shelf, amount))[0])
            self.assertIn(name, names)
            if amount == 0:
                self.assertEqual(paper, [])
            else:
                self.look_at_paper(with_more(book, shelf, amount - 1), name, paper)


class Want(Looked):
    def test_a_name_of_the_most(self):
        for shelf in [AW, BW, CW, NEVER]:
            for name in "pqr":
                self.assertEqual(want(ring(), name, shelf), (0, ["p", "q", "r"], []))
            for name in "zm":
                self.assertEqual(want(queue(), name, shelf), (0, ["m", "z"], []))

    def test_the_most_of_0_may_be_less_than_all(self):
        book = offered(queue(), one_deal("y", "b c v 1"))
        self.assertEqual(want(book, "z", ("b", "v")), (0, ["m", "z"], []))
        self.assertEqual(want(book, "m", AW), (0, ["m", "z"], []))

    def test_a_row(self):
        self.assertEqual(want(queue(), "k", AW), (1, ["k", "m", "z"], [("k", AW, None)]))
        book = taken(queue(), AW, 5)
        for name, amount, names in [("z", 2, ["z"]), ("m", 5, ["m", "z"]), ("k", 6, ["k", "m", "z"])]:
            told = want(book, name, AW)
            self.assertEqual(told[:2], (amount, names))
            self.look_at(book, name, AW, told)

    def test_a_line_and_a_stock_below_0(self):
        book = taken(lined(queue(), AW, 4), AW, 8)
        self.assertEqual((book.stock[AW], book.lines[AW]), (-3, 4))
        self.assertEqual([want(book, name, AW)[0] for name in "zmk"], [1, 4, 5])
        self.assertEqual([want(lined(book, AW, 9), name, AW)[0] for name in "zmk"], [0, 0, 0])
        self.assertEqual([want(lined(book, AW, 8), name, AW)[0] for name in "zmk"], [0, 0, 1])

    def test_a_shelf_of_another_deal_that_it_waits_for(self):
        for name in ["q", "o"]:
            book = waiting_for(name)
            told = want(book, name, AW)
            self.assertEqual(told, (3, sorted(["p", name]), [("p", AW, None), (name, BW, None)]))
            self.assertEqual(want(book, name, BW)[:2], (3, [name]))
            self.assertEqual(want(laid(book, AW, 1), name, AW)[0], 2)

    def test_a_shelf_of_another_deal_that_stands_ahead(self):
        book = book_of({BW: 9}, one_deal("p", "a x w 4", "b x w 1"), one_deal("q", "b x w 1"))
        self.assertEqual(want(book, "q", AW), (4, ["p", "q"], [("p", AW, None), ("q", BW, "p")]))
        self.assertEqual(want(book, "q", BW), (None, [], [("p", AW, None), ("q", BW, "p")]))

    def test_a_chain(self):
        for name in "srqp":
            told = want(chain(), name, DW)
            self.assertEqual(told[:2], (1, ["p", "q", "r", "s"]))
            self.look_at(chain(), name, DW, told)
        self.assertEqual([want(chain(), name, BW)[0] for name in "pqrst"], [1, 1, None, None, None])
        self.assertEqual([want(chain(), name, AW)[0] for name in "pqrst"], [1, None, None, None, 2])
        self.assertEqual([want(chain(), "t", shelf)[0] for shelf in [AW, BW, CW, DW]], [2, None, None, None])

    def test_others_that_go_then_too(self):
        book = book_of({}, one_deal("p", "a b w 2"), one_deal("q", "b a w 1"), one_deal("r", "b x w 1"))
        told = want(book, "r", AW)
        self.assertEqual(told[:2], (1, ["p", "q", "r"]))
        self.look_at(book, "r", AW, told)
        told = want(book, "q", BW)
        self.assertEqual(told[:2], (1, ["q"]))
        self.look_at(book, "q", BW, told)

    def test_a_ring_that_lacks_one(self):
        book = book_of({}, one_deal("p", "a b w 4"), one_deal("q", "b c w 3"), one_deal("r", "c a w 3"))
        for name in "pqr":
            told = want(book, name, AW)
            self.assertEqual(told[:2], (1, ["p", "q", "r"]))
            self.look_at(book, name, AW, told)
        self.assertEqual(want(book, "r", CW)[:2], (3, ["r"]))
        self.assertEqual(want(book, "p", CW)[0], None)

    def test_no_amount_does(self):
        self.assertEqual(want(queue(), "k", BW), (None, [], [("k", AW, None)]))
        self.assertEqual(want(queue(), "k", NEVER), (None, [], [("k", AW, None)]))
        book = book_of({}, one_deal("p", "a x w 1", "b x w 1"), one_deal("q", "x y w 1"))
        for name in ["p", "q"]:
            for shelf in [AW, BW]:
                told = want(book, name, shelf)
                self.assertIsNone(told[0])
                self.look_at(book, name, shelf, told)
        self.assertEqual(want(book, "q", ("x", "w"))[:2], (1, ["q"]))

    def test_no_amount_does_at_a_shelf_where_it_is_short_too(self):
        book = book_of({}, one_deal("p", "a x w 5", "b x w 1"), one_deal("q", "a x w 1"))
        for name, paper in [("p", [("p", BW, None)]), ("q", [("p", BW, None), ("q", AW, "p")])]:
            told = want(book, name, AW)
            self.look_at(book, name, AW, told)
            self.assertEqual(told[0], None)
            self.assertEqual(told[2][:len(paper)], paper)
        self.assertEqual(want(laid(book, BW, 1), "q", AW)[:2], (6, ["p", "q"]))

    def test_amounts_one_by_one_of_many_books(self):
        kinds = {}
        for book in [small_book(seed) for seed in range(250)] + [ring_book(seed) for seed in range(60)]:
            for shelf in shelves_of(book) + [NEVER]:
                # With all that is ever given from it, no further amount there changes anything.
                bound = legs_sum(book, book.deals, shelf, 0)
                mosts = [most(with_more(book, shelf, amount))[0] for amount in range(bound + 1)]
                for name in sorted(book.deals):
                    right = [amount for amount, names in enumerate(mosts) if name in names] or [None]
                    told = want(book, name, shelf)
                    self.assertEqual(told[0], right[0])
                    self.look_at(book, name, shelf, told)
                    own = name in book.rows.get(shelf, [])
                    kind = ("none" if told[0] is None else min(2, told[0]), own)
                    kinds[kind] = kinds.get(kind, 0) + 1
        self.assertEqual(len(kinds), 8)
        self.assertGreater(min(kinds.values()), 50)

    def test_names_as_trying_every_set_says(self):
        for seed in range(150):
            book = small_book(seed)
            for name in sorted(book.deals):
                for shelf in sorted(book.rows):
                    amount, names, paper = want(book, name, shelf)
                    if amount is not None:
                        more = with_more(book, shelf, amount)
                        self.assertEqual(names, greatest(more, list(book.deals)))

    def test_no_amount_does_however_great(self):
        for seed in range(150):
            book = small_book(seed)
            for name in sorted(book.deals):
                for shelf in shelves_of(book):
                    if want(book, name, shelf)[0] is None:
                        self.assertNotIn(name, most(with_more(book, shelf, 10 ** 70))[0])

    def test_amounts_of_sixty_figures(self):
        book = book_of({}, one_deal("p", f"a b w {GREAT}"), one_deal("q", f"b c w {GREAT}"))
        for name, shelf, names in [("p", AW, ["p", "q"]), ("q", AW, ["p", "q"]), ("q", BW, ["q"])]:
            told = want(book, name, shelf)
            self.assertEqual(told[:2], (GREAT, names))
            self.look_at(book, name, shelf, told)
        odd = 123456789012345678901234567890123456789012345678901234567890
        book = laid(book, AW, odd)
        told = want(book, "q", AW)
        self.assertEqual(told[:2], (GREAT - odd, ["p", "q"]))
        self.look_at(book, "q", AW, told)

    def test_amounts_of_more_figures(self):
        book = book_of({}, *[one_deal(name, *[f"a b w {GREAT}"] * 8) for name in "pqr"])
        for name, times, names in [("p", 8, ["p"]), ("q", 16, ["p", "q"]), ("r", 24, ["p", "q", "r"])]:
            told = want(book, name, AW)
            self.assertEqual(told[:2], (times * GREAT, names))
            self.look_at(book, name, AW, told)

    def test_a_hundred_in_one_row(self):
        names = ["".join(two) for two in itertools.product("abcdefghij", repeat=2)]
        deals = [one_deal(name, f"y z w {place + 2}", f"z y w {place + 1}") for place, name in enumerate(names[1:])]
        book = book_of({}, *deals)
        told = want(book, names[-1], ("y", "w"))
        self.assertEqual(told[:2], (99, names[1:]))
        self.look_at(book, names[-1], ("y", "w"), told)

    def test_what_is_no_shelf(self):
        for shelf in NOT_SHELVES:
            for book in [empty(), queue(), chain()]:
                for name in ["k", "p", "x", "", "none"]:
                    assert_refused(self, NoName, want, book, name, shelf)

    def test_a_name_that_does_not_wait(self):
        for shelf in [AW, BW, NEVER]:
            for name in ["x", "", "a", "K", "k ", "none", "abcdefghi"]:
                for book in [empty(), queue(), ring()]:
                    assert_refused(self, NotWaiting, want, book, name, shelf)
            assert_refused(self, NotWaiting, want, called_off(queue(), "k"), "k", shelf)
            assert_refused(self, NotWaiting, want, done(queue(), ["z"]), "z", shelf)

    def test_a_place_in_a_row_counts(self):
        book = taken(queue(), AW, 5)
        self.assertEqual([want(moved(book, AW, "k", 0), name, AW)[0] for name in "kzm"], [1, 3, 6])

    def test_kinds(self):
        for told in [want(queue(), "k", AW), want(queue(), "k", BW), want(queue(), "z", AW)]:
            self.assertIs(type(told), tuple)
            self.assertEqual([type(part) for part in told[1:]], [list, list])
            self.assertIn(type(told[0]), [int, type(None)])
            for strike in told[2]:
                self.assertEqual((type(strike), type(strike[1]), len(strike)), (tuple, tuple, 3))


class Spare(unittest.TestCase):
    def test_nothing_needs_the_shelf(self):
        self.assertEqual(spare(laid(empty(), AW, 7), AW), 7)
        self.assertEqual(spare(laid(queue(), BW, 7), BW), 7)
        self.assertEqual(spare(lined(empty(), AW, 7), AW), 7)
        self.assertEqual(spare(taken(lined(empty(), AW, 7), AW, 3), AW), 4)
        self.assertEqual(spare(laid(lined(empty(), AW, 7), AW, 3), AW), 10)

    def test_none_of_the_most_needs_it(self):
        self.assertEqual(spare(taken(queue(), AW, 4), AW), 1)
        self.assertEqual(spare(done(queue(), ["z"]), BW), 2)
        self.assertEqual(spare(laid(chain(), ("x", "w"), 5), ("x", "w")), 5)

    def test_the_most_leans_on_it(self):
        self.assertEqual(spare(laid(queue(), AW, 3), AW), 2)
        self.assertEqual(spare(lined(queue(), AW, 4), AW), 3)
        self.assertEqual(spare(called_off(queue(), "m"), AW), 2)
        self.assertEqual(spare(moved(queue(), AW, "k", 0), AW), 2)

    def test_all_of_it_is_needed(self):
        self.assertEqual(spare(queue(), AW), 0)
        self.assertEqual(spare(laid(queue(), AW, 1), AW), 0)
        self.assertEqual(spare(laid(chain(), DW, 1), DW), 0)

    def test_what_is_brought_there_may_be_given_on(self):
        self.assertEqual([spare(laid(ring(), shelf, 5), shelf) for shelf in [AW, BW, CW]], [5, 5, 5])
        book = book_of({AW: 2}, one_deal("p", "a b w 4"), one_deal("q", "b a w 3"))
        self.assertEqual(spare(book, AW), 1)
        self.assertEqual(spare(laid(book, BW, 2), BW), 2)

    def test_no_more_than_the_room(self):
        book = book_of({AW: 2, BW: 1}, one_deal("p", "a b w 2"))
        self.assertEqual(spare(book, BW), 1)
        self.assertEqual(spare(called_off(book, "p"), BW), 1)
        self.assertEqual(spare(taken(book, BW, 1), BW), 0)

    def test_a_shelf_that_was_never_named(self):
        for book in [empty(), queue(), ring(), chain()]:
            self.assertEqual(spare(book, NEVER), 0)

    def test_a_shelf_with_nothing_on_it(self):
        self.assertEqual([spare(ring(), shelf) for shelf in [AW, BW, CW]], [0, 0, 0])
        self.assertEqual(spare(queue(), BW), 0)

    def test_great_amounts(self):
        book = book_of({AW: GREAT}, one_deal("p", f"a b w {GREAT - 10 ** 59}"))
        self.assertEqual(spare(book, AW), 10 ** 59)
        self.assertEqual(spare(laid(book, AW, GREAT), AW), GREAT + 10 ** 59)
        self.assertEqual(spare(taken(book, AW, 10 ** 59), AW), 0)
        self.assertEqual(spare(taken(book, AW, 10 ** 59 + 1), AW), GREAT - 10 ** 59 - 1)

    def test_amounts_one_by_one_of_many_books(self):
        kinds = {"all": 0, "some": 0, "none": 0, "no room": 0}
        for book in [small_book(seed) for seed in range(500)] + [ring_book(seed) for seed in range(150)]:
            names = most(book)[0]
            for shelf in shelves_of(book) + [NEVER]:
                room = room_of(book, shelf)
                stays = [most(with_more(book, shelf, -amount))[0] == names for amount in range(room + 1)]
                told = spare(book, shelf)
                self.assertEqual(told, max(amount for amount in range(room + 1) if stays[amount]))
                kinds["no room" if room == 0 else "all" if told == room else "some" if told else "none"] += 1
        self.assertGreater(min(kinds.values()), 50)

    def test_taking_it_keeps_the_most_and_one_more_does_not(self):
        for seed in range(200):
            book = small_book(seed)
            for shelf in shelves_of(book):
                told = spare(book, shelf)
                behind = taken(book, shelf, told) if told else book
                self.assertEqual(most(behind)[0], most(book)[0])
                self.assertEqual(spare(behind, shelf), 0)
                if told < room_of(book, shelf):
                    self.assertNotEqual(most(taken(book, shelf, told + 1))[0], most(book)[0])

    def test_what_is_no_shelf(self):
        for shelf in NOT_SHELVES:
            for book in [empty(), queue(), chain()]:
                assert_refused(self, NoName, spare, book, shelf)

    def test_kind(self):
        for told in [spare(queue(), AW), spare(empty(), NEVER), spare(laid(queue(), AW, 3), AW)]:
            self.assertIs(type(told), int)


class WhoseItIs(unittest.TestCase):
    def test_what_is_handed_in_stays(self):
        for book in [queue(), ring(), chain(), laid(chain(), DW, 2)]:
            kept = values(book)
            for shelf in shelves_of(book) + [NEVER]:
                spare(book, shelf)
                for name in sorted(book.deals):
                    want(book, name, shelf)
            assert_refused(self, NoName, want, book, "k", "a")
            assert_refused(self, NotWaiting, want, book, "none", AW)
            assert_refused(self, NoName, spare, book, "a")
            self.assertEqual(values(book), kept)

    def test_what_is_told_is_the_askers_own(self):
        book = chain()
        for name, shelf in [("s", DW), ("p", DW), ("t", AW), ("t", DW), ("p", AW)]:
            told, other = want(book, name, shelf), want(book, name, shelf)
            right = repr(other)
            for part in told[1:]:
                part.reverse()
                part.append("new")
            self.assertEqual(repr(other), right)
            self.assertEqual(repr(want(book, name, shelf)), right)

    def test_the_empty_lists_too(self):
        for name, shelf in [("z", AW), ("k", BW)]:
            told = want(queue(), name, shelf)
            self.assertIsNot(told[1], told[2])
            right = repr(told)
            for part in want(queue(), name, shelf)[1:]:
                part.append("new")
            self.assertEqual(repr(want(queue(), name, shelf)), right)

    def test_what_was_told_stays_whatever_is_done_later(self):
        told = want(chain(), "p", DW)
        right = repr(told)
        want(laid(chain(), DW, 1), "p", DW)
        want(called_off(chain(), "s"), "p", DW)
        self.assertEqual(repr(told), right)

    def test_the_same_one_each_time_for_equal_books(self):
        for book in [small_book(seed) for seed in range(100)] + [ring_book(seed) for seed in range(30)]:
            other = Book(*turned(book))
            self.assertEqual(values(other), values(book))
            for shelf in shelves_of(book):
                self.assertEqual(spare(other, shelf), spare(book, shelf))
                for name in sorted(book.deals):
                    self.assertEqual(want(other, name, shelf), want(book, name, shelf))
                    self.assertEqual(want(book, name, shelf), want(book, name, shelf))


if __name__ == "__main__":
    unittest.main()
