import unittest

from dealknot import deeds
from dealknot.books import Book, called_off, empty, laid, lined, moved, offered, taken
from dealknot.deeds import Bell, Deed, Lay, Line, Off, Offer, Put, Take
from dealknot.errors import NoAmount, NoName, NotWaiting, TooLittle, Twice
from dealknot.going import done
from dealknot.strikes import most
from small_books import (
    GREAT, NOT_SHELVES, assert_refused, book_of, chain, faults, greatest, one_deal, queue, ring, ring_book, small_book,
    turned, values)

AW, BW, CW = ("a", "w"), ("b", "w"), ("c", "w")
KINDS = [Lay, Take, Line, Offer, Off, Put, Bell]
NEW = one_deal("new", "a b w 2", "b a v 3")


def some_deeds():
    """One deed of each class that is done to the queue, and what it makes of it."""
    return [
        (Lay(AW, 3), laid(queue(), AW, 3)), (Take(AW, 4), taken(queue(), AW, 4)), (Line(BW, 2), lined(queue(), BW, 2)),
        (Offer(NEW), offered(queue(), NEW)), (Off("m"), called_off(queue(), "m")),
        (Put(AW, "k", 1), moved(queue(), AW, "k", 1)), (Bell(), done(queue(), ["m", "z"])), (Deed(), queue())]


class Classes(unittest.TestCase):
    def test_each_stands_under_deed_and_none_under_another(self):
        for kind in KINDS:
            self.assertEqual(kind.__mro__, (kind, Deed, object))
        self.assertEqual(Deed.__mro__, (Deed, object))

    def test_names_and_places(self):
        names = ["Lay", "Take", "Line", "Offer", "Off", "Put", "Bell"]
        self.assertEqual([kind.__name__ for kind in KINDS], names)
        self.assertEqual([getattr(deeds, name) for name in names + ["Deed"]], KINDS + [Deed])

    def test_values(self):
        for kind in [Lay, Take]:
            deed = kind(AW, 3)
            self.assertEqual((deed.shelf, deed.amount), (AW, 3))
        line = Line(BW, 0)
        self.assertEqual((line.shelf, line.line), (BW, 0))
        self.assertEqual(Offer(NEW).deal, NEW)
        self.assertEqual(Off("new").name, "new")
        put = Put(AW, "new", GREAT)
        self.assertEqual((put.shelf, put.name, put.place), (AW, "new", GREAT))

    def test_two_objects_do_not_share_values(self):
        for kind in [Lay, Take, Line]:
            one, other = kind(AW, 3), kind(BW, 4)
            self.assertEqual((one.shelf, other.shelf), (AW, BW))
        one, other = Put(AW, "p", 3), Put(BW, "q", 4)
        self.assertEqual((one.shelf, one.name, one.place, other.name), (AW, "p", 3, "q"))

    def test_arguments_by_their_names(self):
        told = [Lay(shelf=AW, amount=3), Take(shelf=AW, amount=3), Line(shelf=AW, line=3), Offer(deal=NEW),
                Off(name="p"), Put(shelf=AW, name="p", place=3)]
        self.assertEqual([deed.row() for deed in told], [
            "lay a w 3", "take a w 3", "line a w 3", "deal new a b w 2, b a v 3", "off p", "put a w p 3"])
        self.assertEqual(values(told[0].acted(book=empty())[0]), ({AW: 3}, {}, {}, {}))


class Acted(unittest.TestCase):
    def test_a_pair_of_a_book_and_a_list(self):
        for deed, behind in some_deeds():
            told = deed.acted(queue())
            self.assertEqual([type(told), len(told), type(told[0]), type(told[1])], [tuple, 2, Book, list])
            self.assertEqual(values(told[0]), values(behind))

    def test_no_names_but_by_bell(self):
        for deed, behind in some_deeds():
            self.assertEqual(deed.acted(queue())[1], ["m", "z"] if isinstance(deed, Bell) else [])

    def test_the_book_handed_in_stays(self):
        for deed, behind in some_deeds():
            book = queue()
            deed.acted(book)
            self.assertEqual(values(book), values(queue()))

    def test_a_deed_is_done_to_any_book_and_again(self):
        for deed in [Lay(AW, 3), Line(BW, 2), Offer(NEW), Bell(), Deed()]:
            kept = dict(vars(deed))
            for book in [queue(), ring(), chain(), empty(), queue()]:
                behind, names = deed.acted(book)
                self.assertEqual(faults(behind), [])
                again, names_again = deed.acted(book)
                self.assertEqual((values(again), names_again), (values(behind), names))
            self.assertEqual(vars(deed), kept)

    def test_what_is_done_later_does_not_change_what_is_behind(self):
        for deed, behind in some_deeds():
            told = deed.acted(queue())[0]
            for other in [Lay(AW, 9), Line(AW, 9), Offer(one_deal("newer", "a b w 1")), Off("k"), Bell()]:
                other.acted(Lay(AW, 9).acted(told)[0])
            self.assertEqual(values(told), values(behind))

    def test_the_names_are_the_askers_own(self):
        for deed, behind in some_deeds():
            names = deed.acted(queue())[1]
            right = list(names)
            names.append("new")
            self.assertEqual(deed.acted(queue())[1], right)

    def test_a_plain_deed(self):
        for book in [empty(), queue(), ring(), chain(), laid(chain(), AW, 4)]:
            told = Deed().acted(book)
            self.assertEqual((values(told[0]), told[1]), (values(book), []))
        self.assertEqual(Deed().row(), "")

    def test_laying(self):
        book = Lay(BW, GREAT).acted(Lay(AW, 3).acted(Lay(AW, 1).acted(empty())[0])[0])[0]
        self.assertEqual(values(book), ({AW: 4, BW: GREAT}, {}, {}, {}))

    def test_taking_and_lines(self):
        book = Take(AW, 4).acted(Line(AW, 7).acted(laid(empty(), AW, 1))[0])[0]
        self.assertEqual(values(book), ({AW: -3}, {AW: 7}, {}, {}))
        self.assertEqual(values(Line(AW, 3).acted(book)[0]), ({AW: -3}, {AW: 3}, {}, {}))
        self.assertEqual(values(Line(BW, 0).acted(book)[0]), ({AW: -3}, {AW: 7}, {}, {}))

    def test_offers_and_calling_off(self):
        book = Offer(NEW).acted(Off("z").acted(queue())[0])[0]
        self.assertEqual(book.rows, {AW: ["m", "k", "new"], ("b", "v"): ["new"]})
        self.assertEqual(sorted(book.deals), ["k", "m", "new"])
        self.assertEqual(book.deals["new"], NEW)

    def test_putting(self):
        for place, row in [(0, ["m", "z", "k"]), (1, ["z", "m", "k"]), (2, ["z", "k", "m"]), (GREAT, ["z", "k", "m"])]:
            self.assertEqual(Put(AW, "m", place).acted(queue())[0].rows, {AW: row})


class Refused(unittest.TestCase):
    def test_nothing_is_refused_as_it_is_made(self):
        for kind in [Lay, Take, Line]:
            for shelf in NOT_SHELVES:
                kind(shelf, None)
        Off("")
        Put(AW, "none", 0)

    def test_no_shelf(self):
        for kind in [Lay, Take, Line]:
            for shelf in NOT_SHELVES:
                for amount in [1, 0, -1, None, GREAT + 1]:
                    assert_refused(self, NoName, kind(shelf, amount).acted, queue())

    def test_no_amount(self):
        for amount in [-1, GREAT + 1, True, False, None, "3", 1.0, [], object()]:
            for kind in [Lay, Take, Line]:
                assert_refused(self, NoAmount, kind(AW, amount).acted, queue())
        for kind in [Lay, Take]:
            assert_refused(self, NoAmount, kind(AW, 0).acted, queue())

    def test_too_little(self):
        assert_refused(self, TooLittle, Take(AW, 6).acted, queue())
        assert_refused(self, TooLittle, Take(BW, 1).acted, queue())
        assert_refused(self, TooLittle, Line(AW, 2).acted, taken(lined(empty(), AW, 4), AW, 3))

    def test_twice(self):
        assert_refused(self, Twice, Offer(one_deal("z", "x y w 1")).acted, queue())
        assert_refused(self, Twice, Offer(NEW).acted, offered(empty(), NEW))

    def test_not_waiting(self):
        for book in [empty(), ring(), called_off(queue(), "k")]:
            assert_refused(self, NotWaiting, Off("k").acted, book)
            assert_refused(self, NotWaiting, Put(AW, "k", 0).acted, book)
        assert_refused(self, NotWaiting, Put(BW, "k", 0).acted, queue())
        assert_refused(self, NotWaiting, Off("").acted, queue())

    def test_the_book_handed_in_stays(self):
        for deed in [Lay(None, 1), Lay(AW, 0), Take(AW, 6), Line(AW, -1), Offer(one_deal("z", "x y w 1")), Off("x"),
                     Put(BW, "k", 0)]:
            book = queue()
            with self.assertRaises(ValueError):
                deed.acted(book)
            self.assertEqual(values(book), values(queue()))


class Bells(unittest.TestCase):
    def told(self, book):
        behind, names = Bell().acted(book)
        return (values(behind), names)

    def test_nothing_goes(self):
        for book in [empty(), laid(empty(), AW, 3), chain(), called_off(ring(), "q")]:
            self.assertEqual(self.told(book), (values(book), []))

    def test_a_row(self):
        self.assertEqual(self.told(queue()), (
            ({BW: 2, CW: 3}, {}, {"k": one_deal("k", "a b w 1")}, {AW: ["k"]}), ["m", "z"]))

    def test_a_ring(self):
        self.assertEqual(self.told(ring()), (({}, {}, {}, {}), ["p", "q", "r"]))

    def test_a_stock_below_0(self):
        self.assertEqual(self.told(lined(offered(empty(), NEW), AW, 2)), (
            values(lined(offered(empty(), NEW), AW, 2)), []))
        self.assertEqual(self.told(lined(lined(offered(empty(), NEW), AW, 2), ("b", "v"), 4)), (
            ({AW: -2, BW: 2, ("b", "v"): -3, ("a", "v"): 3}, {AW: 2, ("b", "v"): 4}, {}, {}), ["new"]))

    def test_the_names_are_sorted_whatever_the_turn_of_offers(self):
        deals = [one_deal(name, "a b w 1") for name in ["none", "b", "ab", "a", "ba", "zz"]]
        self.assertEqual(Bell().acted(book_of({AW: 6}, *deals))[1], ["a", "ab", "b", "ba", "none", "zz"])
        self.assertEqual(Bell().acted(book_of({AW: 4}, *deals))[1], ["a", "ab", "b", "none"])

    def test_many_books(self):
        some = 0
        for book in [small_book(seed) for seed in range(300)] + [ring_book(seed) for seed in range(60)]:
            kept = values(book)
            behind, names = Bell().acted(book)
            self.assertEqual(names, greatest(book, list(book.deals)))
            self.assertEqual(names, most(book)[0])
            self.assertEqual(values(behind), values(done(book, names)))
            self.assertEqual(faults(behind), [])
            self.assertEqual(self.told(behind), (values(behind), []))
            self.assertEqual(self.told(Book(*turned(book))), (values(behind), names))
            self.assertEqual(values(book), kept)
            some += 0 < len(names) < len(book.deals)
        self.assertGreater(some, 50)


class Rows(unittest.TestCase):
    def test_rows(self):
        great = str(GREAT)
        rows = [
            (Lay(AW, 3), "lay a w 3"), (Lay(("house", "abcdefgh"), GREAT), "lay house abcdefgh " + great),
            (Take(AW, 10), "take a w 10"), (Take(("b", "a"), GREAT), "take b a " + great),
            (Line(AW, 0), "line a w 0"), (Line(AW, GREAT), "line a w " + great),
            (Off("none"), "off none"), (Put(("x", "y"), "p", 0), "put x y p 0"),
            (Put(("y", "x"), "bell", 12), "put y x bell 12"), (Bell(), "bell"), (Deed(), "")]
        for deed, row in rows:
            self.assertEqual(deed.row(), row)
            self.assertIs(type(deed.row()), str)

    def test_the_row_of_an_offer(self):
        self.assertEqual(Offer(one_deal("p", "a b w 3")).row(), "deal p a b w 3")
        self.assertEqual(Offer(NEW).row(), "deal new a b w 2, b a v 3")
        legs = ["b a w 2", "a b w 1", "b a w 2", "a b w 1", f"c a w {GREAT}", "x y z 1", "x y z 2", "x y z 3"]
        self.assertEqual(Offer(one_deal("p", *legs)).row(), "deal p " + ", ".join(legs))

    def test_a_row_stays_whatever_the_deed_is_done_to(self):
        for deed, behind in some_deeds():
            row = deed.row()
            deed.acted(queue())
            self.assertEqual(deed.row(), row)


if __name__ == "__main__":
    unittest.main()
