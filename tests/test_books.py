import itertools
import unittest

from dealknot.books import Book, called_off, empty, laid, lined, moved, offered, room, taken
from dealknot.errors import NoAmount, NoName, NotWaiting, TooLittle, Twice
from dealknot.rows import put_to
from small_books import (
    GREAT, NOT_SHELVES, assert_refused, book_of, faults, one_deal, room_of, shelves_of, small_book, values)

AW, AV, BW, CW = ("a", "w"), ("a", "v"), ("b", "w"), ("c", "w")

NOT_WHOLE = [
    True, False, "1", "", "a", None, [], [1], (), (1,), {}, {1: 1}, {1}, 0.0, 1.0, 2.5, float("nan"), float("inf"),
    b"1", object(), int]
TOO_GREAT = [10 ** 60, 10 ** 60 + 1, 10 ** 61, 10 ** 5000]
NOT_AMOUNTS = [0, -1, -GREAT, -10 ** 5000] + TOO_GREAT + NOT_WHOLE
NOT_LINES = [-1, -GREAT, -10 ** 5000] + TOO_GREAT + NOT_WHOLE

SWAP = one_deal("swap", "a b w 3", "b a v 1")
GIFT = one_deal("gift", "a c w 2")


def overdrawn():
    """A book in which the stock of AW is -3, and its line 5."""
    return taken(lined(empty(), AW, 5), AW, 3)


class Values(unittest.TestCase):
    def test_the_empty_book(self):
        book = empty()
        self.assertIsInstance(book, Book)
        self.assertEqual(values(book), ({}, {}, {}, {}))

    def test_the_empty_book_is_new_each_time(self):
        one, other = empty(), empty()
        dicts = [one.stock, one.lines, one.deals, one.rows, other.stock, other.lines, other.deals, other.rows]
        for first, second in itertools.combinations(dicts, 2):
            self.assertIsNot(first, second)
        for value in dicts[:4]:
            self.assertIs(type(value), dict)

    def test_a_book_of_four_values(self):
        four = ({AW: -3, BW: 4}, {AW: 5}, {"swap": SWAP}, {AW: ["swap"], ("b", "v"): ["swap"]})
        self.assertEqual(values(Book(*four)), four)
        self.assertEqual(values(Book(stock=four[0], lines=four[1], deals=four[2], rows=four[3])), four)

    def test_a_book_of_the_values_of_another(self):
        for seed in range(50):
            book = small_book(seed)
            other = Book(book.stock, book.lines, book.deals, book.rows)
            self.assertEqual(values(other), values(book))

    def test_every_book_that_is_made_is_one(self):
        for seed in range(1000):
            with self.subTest(seed):
                self.assertEqual(faults(small_book(seed)), [])


class Room(unittest.TestCase):
    def test_with_a_stock(self):
        self.assertEqual(room(laid(empty(), AW, 7), AW), 7)

    def test_with_a_line(self):
        self.assertEqual(room(lined(empty(), AW, 7), AW), 7)

    def test_with_both(self):
        self.assertEqual(room(lined(laid(empty(), AW, 7), AW, 4), AW), 11)

    def test_with_a_stock_below_0(self):
        self.assertEqual(room(overdrawn(), AW), 2)
        self.assertEqual(room(taken(overdrawn(), AW, 2), AW), 0)

    def test_of_a_shelf_that_was_never_named(self):
        for book in [empty(), overdrawn(), book_of({BW: 3}, SWAP)]:
            for shelf in [CW, ("w", "a"), ("zz", "zz")]:
                self.assertEqual(room(book, shelf), 0)
                self.assertIs(type(room(book, shelf)), int)

    def test_waiting_deals_take_nothing(self):
        book = book_of({AW: 3}, SWAP, GIFT)
        self.assertEqual([room(book, shelf) for shelf in [AW, BW, CW, ("b", "v"), AV]], [3, 0, 0, 0, 0])

    def test_great_ones(self):
        book = lined(laid(laid(empty(), AW, GREAT), AW, GREAT), AW, GREAT)
        self.assertEqual(room(book, AW), 3 * GREAT)

    def test_of_every_shelf_of_many_books(self):
        for seed in range(200):
            book = small_book(seed)
            for shelf in shelves_of(book):
                self.assertEqual(room(book, shelf), room_of(book, shelf))


class LaidAndTaken(unittest.TestCase):
    def test_laid(self):
        book = laid(laid(laid(empty(), AW, 7), BW, 1), AW, 2)
        self.assertEqual(values(book), ({AW: 9, BW: 1}, {}, {}, {}))
        self.assertIsInstance(book, Book)

    def test_taken(self):
        book = taken(laid(laid(empty(), AW, 7), BW, 1), AW, 2)
        self.assertEqual(values(book), ({AW: 5, BW: 1}, {}, {}, {}))
        self.assertIsInstance(book, Book)

    def test_all_the_room_taken(self):
        self.assertEqual(values(taken(laid(empty(), AW, 7), AW, 7)), ({}, {}, {}, {}))
        self.assertEqual(values(taken(lined(empty(), AW, 7), AW, 7)), ({AW: -7}, {AW: 7}, {}, {}))
        self.assertEqual(values(taken(lined(laid(empty(), AW, 2), AW, 7), AW, 9)), ({AW: -7}, {AW: 7}, {}, {}))
        self.assertEqual(values(taken(overdrawn(), AW, 2)), ({AW: -5}, {AW: 5}, {}, {}))

    def test_one_more(self):
        assert_refused(self, TooLittle, taken, laid(empty(), AW, 7), AW, 8)
        assert_refused(self, TooLittle, taken, lined(empty(), AW, 7), AW, 8)
        assert_refused(self, TooLittle, taken, lined(laid(empty(), AW, 2), AW, 7), AW, 10)
        assert_refused(self, TooLittle, taken, overdrawn(), AW, 3)
        assert_refused(self, TooLittle, taken, taken(overdrawn(), AW, 2), AW, 1)
        assert_refused(self, TooLittle, taken, empty(), AW, 1)
        assert_refused(self, TooLittle, taken, empty(), AW, GREAT)
        assert_refused(self, TooLittle, taken, laid(empty(), AW, 7), BW, 1)
        assert_refused(self, TooLittle, taken, laid(empty(), AW, 7), AV, 1)

    def test_no_0_in_the_stock(self):
        self.assertEqual(values(laid(overdrawn(), AW, 3)), ({}, {AW: 5}, {}, {}))
        self.assertEqual(values(taken(lined(laid(empty(), AW, 3), AW, 1), AW, 3)), ({}, {AW: 1}, {}, {}))

    def test_laid_on_a_stock_below_0(self):
        self.assertEqual(values(laid(overdrawn(), AW, 1)), ({AW: -2}, {AW: 5}, {}, {}))
        self.assertEqual(values(laid(overdrawn(), AW, 9)), ({AW: 6}, {AW: 5}, {}, {}))

    def test_great_amounts(self):
        book = laid(laid(empty(), AW, GREAT), AW, GREAT)
        self.assertEqual(book.stock, {AW: 2 * GREAT})
        self.assertEqual(taken(book, AW, GREAT).stock, {AW: GREAT})
        self.assertEqual(taken(taken(book, AW, GREAT), AW, GREAT).stock, {})
        assert_refused(self, TooLittle, taken, taken(taken(book, AW, GREAT), AW, GREAT), AW, 1)

    def test_deals_and_rows_stay(self):
        book = lined(book_of({AW: 7}, SWAP, GIFT), CW, 4)
        for other in [laid(book, AW, 2), taken(book, AW, 2), laid(book, CW, 2), taken(book, CW, 4)]:
            self.assertEqual((other.lines, other.deals, other.rows), (book.lines, book.deals, book.rows))


class Lined(unittest.TestCase):
    def test_a_line(self):
        book = lined(lined(empty(), AW, 7), BW, 1)
        self.assertEqual(values(book), ({}, {AW: 7, BW: 1}, {}, {}))
        self.assertIsInstance(book, Book)

    def test_in_the_place_of_the_old_one(self):
        book = lined(empty(), AW, 7)
        for line in [1, 6, 7, 8, GREAT]:
            self.assertEqual(values(lined(book, AW, line)), ({}, {AW: line}, {}, {}))

    def test_a_line_of_0(self):
        self.assertEqual(values(lined(empty(), AW, 0)), ({}, {}, {}, {}))
        self.assertEqual(values(lined(lined(empty(), AW, 7), AW, 0)), ({}, {}, {}, {}))
        self.assertEqual(values(lined(lined(laid(empty(), AW, 3), AW, 7), AW, 0)), ({AW: 3}, {}, {}, {}))

    def test_just_as_great_as_a_stock_below_0_wants(self):
        book = lined(overdrawn(), AW, 3)
        self.assertEqual(values(book), ({AW: -3}, {AW: 3}, {}, {}))
        self.assertEqual(room(book, AW), 0)

    def test_one_less(self):
        for line in [2, 1, 0]:
            assert_refused(self, TooLittle, lined, overdrawn(), AW, line)
        great = taken(lined(empty(), AW, GREAT), AW, GREAT)
        self.assertEqual(values(lined(great, AW, GREAT)), ({AW: -GREAT}, {AW: GREAT}, {}, {}))
        assert_refused(self, TooLittle, lined, great, AW, GREAT - 1)

    def test_stock_deals_and_rows_stay(self):
        book = book_of({AW: 7}, SWAP, GIFT)
        for line in [0, 1, GREAT]:
            other = lined(book, CW, line)
            self.assertEqual((other.stock, other.deals, other.rows), (book.stock, book.deals, book.rows))


class WrongShelvesAndAmounts(unittest.TestCase):
    def test_no_shelf(self):
        book = overdrawn()
        for place, thing in enumerate(NOT_SHELVES):
            for call in [laid, taken, lined]:
                with self.subTest((place, call.__name__)):
                    assert_refused(self, NoName, call, book, thing, 1)
                    assert_refused(self, NoName, call, book, thing, GREAT)

    def test_no_shelf_is_told_ahead_of_no_amount(self):
        for shelf in NOT_SHELVES:
            for thing in NOT_AMOUNTS:
                assert_refused(self, NoName, laid, empty(), shelf, thing)
                assert_refused(self, NoName, taken, empty(), shelf, thing)
            for thing in NOT_LINES:
                assert_refused(self, NoName, lined, overdrawn(), shelf, thing)

    def test_no_amount(self):
        for place, thing in enumerate(NOT_AMOUNTS):
            for call in [laid, taken]:
                for book in [empty(), overdrawn(), laid(empty(), AW, GREAT)]:
                    with self.subTest((place, call.__name__)):
                        assert_refused(self, NoAmount, call, book, AW, thing)

    def test_no_line(self):
        for place, thing in enumerate(NOT_LINES):
            for book in [empty(), overdrawn(), laid(empty(), AW, GREAT)]:
                with self.subTest(place):
                    assert_refused(self, NoAmount, lined, book, AW, thing)

    def test_the_least_and_the_greatest(self):
        for amount in [1, GREAT]:
            self.assertEqual(laid(empty(), AW, amount).stock, {AW: amount})
            self.assertEqual(taken(laid(laid(empty(), AW, 1), AW, GREAT), AW, amount).stock, {AW: GREAT + 1 - amount})
        for line in [1, GREAT]:
            self.assertEqual(lined(empty(), AW, line).lines, {AW: line})

    def test_what_is_refused_changes_nothing(self):
        book = offered(overdrawn(), SWAP)
        kept = values(book)
        for call in [laid, taken, lined]:
            for shelf, thing in [(None, 1), (AW, None), (AW, -1), (["a", "w"], ["x"])]:
                with self.assertRaises(ValueError):
                    call(book, shelf, thing)
        assert_refused(self, TooLittle, taken, book, AW, 3)
        assert_refused(self, TooLittle, lined, book, AW, 2)
        self.assertEqual(values(book), kept)


class OfferedAndCalledOff(unittest.TestCase):
    def test_offered(self):
        book = offered(empty(), SWAP)
        self.assertEqual(values(book), ({}, {}, {"swap": SWAP}, {AW: ["swap"], ("b", "v"): ["swap"]}))
        self.assertIsInstance(book, Book)

    def test_it_enters_at_the_end(self):
        book = offered(offered(laid(lined(empty(), BW, 2), AW, 4), SWAP), GIFT)
        self.assertEqual(values(book), (
            {AW: 4}, {BW: 2}, {"swap": SWAP, "gift": GIFT}, {AW: ["swap", "gift"], ("b", "v"): ["swap"]}))

    def test_twice(self):
        book = offered(empty(), SWAP)
        assert_refused(self, Twice, offered, book, SWAP)
        assert_refused(self, Twice, offered, book, one_deal("swap", "x y z 1"))
        assert_refused(self, Twice, offered, offered(book, GIFT), GIFT)

    def test_the_same_legs_under_another_name(self):
        book = offered(offered(empty(), SWAP), ("other", SWAP[1]))
        self.assertEqual(book.rows, {AW: ["swap", "other"], ("b", "v"): ["swap", "other"]})

    def test_called_off(self):
        book = book_of({AW: 4}, SWAP, GIFT)
        self.assertEqual(values(called_off(book, "swap")), ({AW: 4}, {}, {"gift": GIFT}, {AW: ["gift"]}))
        self.assertEqual(values(called_off(book, "gift")), (
            {AW: 4}, {}, {"swap": SWAP}, {AW: ["swap"], ("b", "v"): ["swap"]}))
        self.assertEqual(values(called_off(called_off(book, "gift"), "swap")), ({AW: 4}, {}, {}, {}))
        self.assertIsInstance(called_off(book, "gift"), Book)

    def test_lines_stay_when_called_off(self):
        book = offered(lined(lined(empty(), AW, 2), CW, 3), GIFT)
        self.assertEqual(values(called_off(book, "gift")), ({}, {AW: 2, CW: 3}, {}, {}))

    def test_none_of_the_name_waits(self):
        assert_refused(self, NotWaiting, called_off, empty(), "swap")
        book = book_of({AW: 4}, SWAP, GIFT)
        for name in ["x", "swa", "swapp", "a", "w", "none"]:
            assert_refused(self, NotWaiting, called_off, book, name)
        assert_refused(self, NotWaiting, called_off, called_off(book, "swap"), "swap")

    def test_what_was_refused_goes_well_behind_what_makes_it_good(self):
        book = book_of({}, SWAP, GIFT)
        assert_refused(self, Twice, offered, book, SWAP)
        again = offered(called_off(book, "swap"), SWAP)
        self.assertEqual(again.rows, {AW: ["gift", "swap"], ("b", "v"): ["swap"]})
        assert_refused(self, NotWaiting, called_off, empty(), "gift")
        self.assertEqual(values(called_off(offered(empty(), GIFT), "gift")), ({}, {}, {}, {}))
        assert_refused(self, NotWaiting, moved, empty(), AW, "gift", 0)
        self.assertEqual(moved(book, AW, "gift", 0).rows[AW], ["gift", "swap"])
        assert_refused(self, TooLittle, taken, empty(), AW, 4)
        self.assertEqual(taken(laid(empty(), AW, 4), AW, 4).stock, {})
        self.assertEqual(taken(lined(empty(), AW, 4), AW, 4).stock, {AW: -4})
        assert_refused(self, TooLittle, lined, overdrawn(), AW, 2)
        self.assertEqual(lined(laid(overdrawn(), AW, 1), AW, 2).lines, {AW: 2})

    def test_no_deal_needs_a_stock_to_wait(self):
        book = offered(empty(), one_deal("x", *["a b w " + str(GREAT)] * 8))
        self.assertEqual(book.rows, {AW: ["x"]})

    def test_a_hundred_deals(self):
        book = empty()
        names = ["".join(two) for two in itertools.product("abcdefghij", repeat=2)]
        for name in names:
            book = offered(book, one_deal(name, "a b w 1", "b c w 1"))
        self.assertEqual(book.rows, {AW: names, BW: names})
        for name in names[::2]:
            book = called_off(book, name)
        self.assertEqual(book.rows, {AW: names[1::2], BW: names[1::2]})
        self.assertEqual(sorted(book.deals), names[1::2])


class Moved(unittest.TestCase):
    def book(self):
        return lined(book_of({AW: 4}, SWAP, GIFT, one_deal("toll", "a b w 1", "b a v 9"), one_deal("far", "c a w 1")),
                     BW, 2)

    def test_to_each_place(self):
        book = self.book()
        for name in book.rows[AW]:
            for place in [0, 1, 2, 3, 4, GREAT]:
                other = moved(book, AW, name, place)
                self.assertIsInstance(other, Book)
                self.assertEqual(other.rows, put_to(book.rows, AW, name, place))
                self.assertEqual((other.stock, other.lines, other.deals), (book.stock, book.lines, book.deals))

    def test_in_one_row_alone(self):
        self.assertEqual(moved(self.book(), AW, "toll", 0).rows, {
            AW: ["toll", "swap", "gift"], ("b", "v"): ["swap", "toll"], CW: ["far"]})
        self.assertEqual(moved(self.book(), ("b", "v"), "swap", 5).rows, {
            AW: ["swap", "gift", "toll"], ("b", "v"): ["toll", "swap"], CW: ["far"]})

    def test_a_name_that_does_not_stand_in_that_row(self):
        for shelf, name in [(AW, "far"), (("b", "v"), "gift"), (BW, "swap"), (AV, "swap"), (AW, "x"), (("x", "x"), "x"),
                            (("x", "x"), "swap")]:
            for place in [0, 1, GREAT]:
                assert_refused(self, NotWaiting, moved, self.book(), shelf, name, place)
        assert_refused(self, NotWaiting, moved, empty(), AW, "swap", 0)
        assert_refused(self, NotWaiting, moved, called_off(self.book(), "swap"), AW, "swap", 0)


class WhoseItIs(unittest.TestCase):
    DEEDS = [
        lambda book: laid(book, AW, 3), lambda book: laid(book, ("new", "new"), 3), lambda book: taken(book, AW, 1),
        lambda book: lined(book, AW, 9), lambda book: lined(book, AW, 4), lambda book: offered(book, ("new", SWAP[1])),
        lambda book: called_off(book, "gift"), lambda book: moved(book, AW, "gift", 0),
        lambda book: moved(book, AW, "gift", 1)]

    def book(self):
        return offered(offered(overdrawn(), SWAP), GIFT)

    def test_the_elder_book_stays(self):
        book = self.book()
        kept = values(book)
        for deed in self.DEEDS:
            newer = deed(book)
            self.assertIsNot(newer, book)
            self.assertEqual(values(book), kept)
            self.assertEqual(list(book.deals), list(kept[2]))

    def test_elder_books_stay_whatever_is_done_to_newer_ones(self):
        for first, second, third in itertools.permutations(self.DEEDS, 3):
            books = [self.book()]
            kept = [values(books[0])]
            for deed in [first, second, third]:
                try:
                    books.append(deed(books[-1]))
                except ValueError:
                    continue
                kept.append(values(books[-1]))
            self.assertEqual([values(book) for book in books], kept)

    def test_two_books_of_one_do_not_meet(self):
        book = self.book()
        one, other = laid(book, AW, 1), called_off(book, "swap")
        kept = values(other)
        offered(laid(one, CW, 9), one_deal("new", "a c w 2"))
        self.assertEqual(values(other), kept)

    def test_no_books_share_a_dict_or_a_list(self):
        book = self.book()
        for deed in self.DEEDS:
            newer = deed(book)
            for one, other in itertools.product(self.things(book), self.things(newer)):
                self.assertIsNot(one, other)

    def things(self, book):
        return [book.stock, book.lines, book.deals, book.rows] + list(book.rows.values())

    def test_what_book_is_handed_is_not_kept(self):
        four = values(self.book())
        book = Book(*four)
        kept = values(book)
        for value in four:
            value[("new", "new")] = 1
        four[3][AW].reverse()
        self.assertEqual(values(book), kept)


if __name__ == "__main__":
    unittest.main()
