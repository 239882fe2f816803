import itertools
import unittest

from dealknot.books import Book, called_off, empty, laid, lined, moved, offered, room, taken
from dealknot.errors import NotNow, NotWaiting
from dealknot.going import done, goes, lacks
from dealknot.sheets import sheet_of
from small_books import (
    GREAT, assert_refused, book_of, faults, keeps_rows, one_deal, plainly_goes, queue, rests_of, ring, sets_of,
    small_book, values)

AW, BW, CW, BV = ("a", "w"), ("b", "w"), ("c", "w"), ("b", "v")


class Lacks(unittest.TestCase):
    def test_of_no_names(self):
        for book in [empty(), ring(), queue(), taken(lined(empty(), AW, 5), AW, 5)]:
            self.assertEqual(lacks(book, []), {})

    def test_of_one(self):
        self.assertEqual(lacks(ring(), ["p"]), {AW: 3})
        self.assertEqual(lacks(laid(ring(), AW, 1), ["p"]), {AW: 2})
        self.assertEqual(lacks(laid(ring(), AW, 3), ["p"]), {})
        self.assertEqual(lacks(laid(ring(), AW, 4), ["p"]), {})

    def test_of_several_that_help_one_another(self):
        self.assertEqual(lacks(ring(), ["p", "q"]), {AW: 3})
        self.assertEqual(lacks(ring(), ["q", "r"]), {BW: 3})
        for names in itertools.permutations("pqr"):
            self.assertEqual(lacks(ring(), list(names)), {})

    def test_of_several_on_one_shelf(self):
        self.assertEqual(lacks(queue(), ["z", "m"]), {})
        self.assertEqual(lacks(queue(), ["z", "m", "k"]), {AW: 1})
        self.assertEqual(lacks(taken(queue(), AW, 5), ["k", "z", "m"]), {AW: 6})

    def test_on_several_shelves(self):
        book = book_of({AW: 1, BV: 1}, one_deal("p", "a b w 3", "b a v 9"), one_deal("q", "a c w 4", "c a w 1"))
        self.assertEqual(lacks(book, ["p"]), {AW: 2, BV: 8})
        self.assertEqual(lacks(book, ["q"]), {AW: 2})
        self.assertEqual(lacks(book, ["p", "q"]), {AW: 5, BV: 8})

    def test_rows_do_not_matter(self):
        self.assertEqual(lacks(queue(), ["k"]), {})
        self.assertEqual(lacks(queue(), ["m", "k"]), {})

    def test_a_line_and_a_stock_below_0(self):
        book = taken(lined(ring(), AW, 5), AW, 3)
        self.assertEqual(lacks(book, ["p"]), {AW: 1})
        self.assertEqual(lacks(lined(book, AW, 6), ["p"]), {})
        self.assertEqual(lacks(lined(book, AW, 3), ["p"]), {AW: 3})

    def test_a_deal_that_gets_back_what_it_gives(self):
        book = book_of({}, one_deal("x", "a b w 3", "b a w 3"), one_deal("y", "a b w 3", "b a w 2"))
        self.assertEqual(lacks(book, ["x"]), {})
        self.assertEqual(lacks(book, ["x", "y"]), {AW: 1})

    def test_great_ones(self):
        book = book_of({}, *[one_deal(name, *["a b w " + str(GREAT)] * 8) for name in ["x", "y"]])
        self.assertEqual(lacks(book, ["x", "y"]), {AW: 16 * GREAT})
        self.assertEqual(lacks(laid(book, AW, GREAT), ["x", "y"]), {AW: 15 * GREAT})

    def test_every_set_of_names_of_many_books(self):
        for seed in range(300):
            book = small_book(seed)
            for names in sets_of(book.deals):
                right = {shelf: -rest for shelf, rest in rests_of(book, names).items() if rest < 0}
                self.assertEqual(lacks(book, names), right)


class Goes(unittest.TestCase):
    def test_the_empty_list(self):
        for book in [empty(), ring(), queue(), taken(lined(empty(), AW, 5), AW, 5)]:
            self.assertIs(goes(book, []), True)

    def test_a_row_that_is_broken(self):
        for names in [["m"], ["k"], ["z", "k"], ["k", "m"]]:
            self.assertEqual(lacks(queue(), names), {})
            self.assertIs(goes(queue(), names), False)

    def test_a_row_that_is_kept(self):
        for names in [["z"], ["z", "m"], ["m", "z"]]:
            self.assertIs(goes(queue(), names), True)

    def test_a_shelf_that_lacks(self):
        self.assertIs(goes(queue(), ["z", "m", "k"]), False)
        self.assertIs(goes(laid(queue(), AW, 1), ["z", "m", "k"]), True)
        self.assertIs(goes(lined(queue(), AW, 1), ["z", "m", "k"]), True)

    def test_another_order_of_the_row(self):
        book = moved(queue(), AW, "k", 0)
        self.assertIs(goes(book, ["k"]), True)
        self.assertIs(goes(book, ["z"]), False)
        self.assertIs(goes(book, ["k", "z"]), True)

    def test_deals_that_bring_one_another_what_they_give(self):
        for names in itertools.permutations("pqr"):
            self.assertIs(goes(ring(), list(names)), True)
        for names in sets_of("pqr")[1:-1]:
            self.assertIs(goes(ring(), names), False)

    def test_every_set_of_names_of_many_books(self):
        told = []
        for seed in range(600):
            book = small_book(seed)
            for names in sets_of(book.deals):
                told.append(goes(book, names))
                self.assertIs(told[-1], plainly_goes(book, names))
        self.assertGreater(told.count(True), 1000)
        self.assertGreater(told.count(False), 1000)

    def test_both_faults_by_themselves_among_many_books(self):
        kinds = set()
        for seed in range(300):
            book = small_book(seed)
            for names in sets_of(book.deals):
                kinds.add((keeps_rows(book.rows, names), lacks(book, names) == {}))
        self.assertEqual(len(kinds), 4)


class Done(unittest.TestCase):
    def test_one(self):
        book = done(queue(), ["z"])
        self.assertIsInstance(book, Book)
        self.assertEqual(values(book), (
            {AW: 3, BW: 2}, {}, {"m": one_deal("m", "a c w 3"), "k": one_deal("k", "a b w 1")}, {AW: ["m", "k"]}))

    def test_several_without_a_0_in_the_stock(self):
        for names in [["z", "m"], ["m", "z"]]:
            self.assertEqual(values(done(queue(), names)), (
                {BW: 2, CW: 3}, {}, {"k": one_deal("k", "a b w 1")}, {AW: ["k"]}))

    def test_no_empty_row_is_left(self):
        book = done(laid(queue(), AW, 1), ["z", "m", "k"])
        self.assertEqual(values(book), ({BW: 3, CW: 3}, {}, {}, {}))

    def test_a_ring_that_changes_no_stock(self):
        self.assertEqual(values(done(ring(), ["r", "p", "q"])), ({}, {}, {}, {}))
        book = done(laid(ring(), BW, 7), ["p", "q", "r"])
        self.assertEqual(values(book), ({BW: 7}, {}, {}, {}))

    def test_lines_stay_and_stock_may_come_below_0(self):
        book = done(lined(lined(ring(), AW, 3), CW, 1), ["p"])
        self.assertEqual((book.stock, book.lines), ({AW: -3, BW: 3}, {AW: 3, CW: 1}))
        self.assertEqual(sorted(book.deals), ["q", "r"])
        self.assertEqual(book.rows, {BW: ["q"], CW: ["r"]})
        self.assertEqual(room(book, AW), 0)

    def test_no_names(self):
        for book in [empty(), ring(), queue(), taken(lined(queue(), BW, 5), BW, 5)]:
            other = done(book, [])
            self.assertIsInstance(other, Book)
            self.assertEqual(values(other), values(book))

    def test_one_that_does_not_wait(self):
        assert_refused(self, NotWaiting, done, empty(), ["z"])
        for names in [["x"], ["x", "z"], ["z", "x"], ["z", "m", "x"], ["a"], ["none"]]:
            assert_refused(self, NotWaiting, done, queue(), names)
        assert_refused(self, NotWaiting, done, done(queue(), ["z"]), ["z"])
        assert_refused(self, NotWaiting, done, called_off(queue(), "z"), ["z", "m"])

    def test_not_waiting_is_told_ahead_of_not_now(self):
        for names in [["m", "x"], ["x", "m"], ["z", "m", "k", "x"], ["x", "k", "m", "z"]]:
            assert_refused(self, NotWaiting, done, queue(), names)

    def test_not_now(self):
        for names in [["m"], ["k"], ["z", "k"], ["k", "m"], ["z", "m", "k"]]:
            assert_refused(self, NotNow, done, queue(), names)
        for names in sets_of("pqr")[1:-1]:
            assert_refused(self, NotNow, done, ring(), names)

    def test_what_was_refused_goes_well_behind_what_makes_it_good(self):
        book = queue()
        assert_refused(self, NotNow, done, book, ["m"])
        self.assertEqual(done(done(book, ["z"]), ["m"]).stock, {BW: 2, CW: 3})
        assert_refused(self, NotNow, done, ring(), ["q"])
        self.assertEqual(done(laid(ring(), BW, 3), ["q"]).stock, {CW: 3})
        assert_refused(self, NotWaiting, done, empty(), ["z"])
        self.assertEqual(done(offered(laid(empty(), AW, 2), one_deal("z", "a b w 2")), ["z"]).stock, {BW: 2})

    def test_every_set_of_names_of_many_books(self):
        for seed in range(400):
            book = small_book(seed)
            for names in sets_of(book.deals):
                if not plainly_goes(book, names):
                    assert_refused(self, NotNow, done, book, names)
                    continue
                other = done(book, names[::-1])
                self.assertEqual(faults(other), [])
                self.assertEqual(other.lines, book.lines)
                self.assertEqual(other.deals, {name: deal for name, deal in book.deals.items() if name not in names})
                for shelf, rest in rests_of(book, names).items():
                    self.assertEqual(room(other, shelf), rest)
                for shelf, row in book.rows.items():
                    self.assertEqual(other.rows.get(shelf, []), [name for name in row if name not in names])

    def test_no_ware_is_made_or_lost(self):
        for seed in range(300):
            book = small_book(seed)
            wares = sheet_of([(shelf[1], number) for shelf, number in book.stock.items()])
            for names in sets_of(book.deals):
                if goes(book, names):
                    stock = done(book, names).stock
                    self.assertEqual(sheet_of([(shelf[1], number) for shelf, number in stock.items()]), wares)


class WhoseItIs(unittest.TestCase):
    def test_what_is_handed_in_stays(self):
        book, names = queue(), ["m", "z"]
        kept = values(book)
        for call in [lacks, goes, done]:
            call(book, names)
            self.assertEqual((values(book), names), (kept, ["m", "z"]))
        assert_refused(self, NotNow, done, book, ["k"])
        assert_refused(self, NotWaiting, done, book, ["x"])
        self.assertEqual(values(book), kept)

    def test_the_book_behind_stays_when_names_change(self):
        names = ["z"]
        book = done(queue(), names)
        kept = values(book)
        names.append("m")
        self.assertEqual(values(book), kept)

    def test_the_elder_book_stays_whatever_is_done_to_the_newer_one(self):
        elder = queue()
        newer = done(elder, ["z"])
        kept = values(elder), values(newer)
        offered(laid(moved(done(newer, ["m"]), AW, "k", 0), AW, 3), one_deal("new", "a b w 2"))
        self.assertEqual((values(elder), values(newer)), kept)

    def test_a_book_behind_no_names_shares_nothing_with_the_elder_one(self):
        elder = queue()
        newer = done(elder, [])
        self.assertIsNot(newer.rows[AW], elder.rows[AW])
        self.assertIsNot(newer.stock, elder.stock)

    def test_lacks_told_are_the_askers_own(self):
        book = queue()
        told = lacks(book, ["z", "m", "k"])
        told[AW] = 99
        told[BW] = 1
        self.assertEqual(lacks(book, ["z", "m", "k"]), {AW: 1})
        lacks(book, []).update({AW: 3})
        self.assertEqual(lacks(book, []), {})
        self.assertEqual(book.stock, {AW: 5})


if __name__ == "__main__":
    unittest.main()
