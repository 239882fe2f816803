import itertools
import unittest

from dealknot.books import Book, empty, laid, lined, moved, offered, taken
from dealknot.going import done, goes
from dealknot.knots import knot, plan
from dealknot.strikes import most, walked
from small_books import (
    GREAT, book_of, chain, greatest, one_deal, plainly_goes, plainly_left, queue, ring, ring_book, sets_of, small_book,
    turned, values)

AW, BW, CW = ("a", "w"), ("b", "w"), ("c", "w")
HUNDRED = ["".join(two) for two in itertools.product("abcdefghij", repeat=2)]


def ring_deals(names, houses, ware="w", amounts=None):
    """Deals of one leg each, along the houses and from the last to the first."""
    takers = houses[1:] + houses[:1]
    return [one_deal(name, f"{giver} {taker} {ware} {amount}") for name, giver, taker, amount in
            zip(names, houses, takers, amounts or [3] * len(names))]


def two_rings():
    return book_of({}, *ring_deals("pr", "ab"), *ring_deals("qst", "cde"))


def crossed():
    """Two deals that stand behind one another, each in another row."""
    book = book_of({AW: 2, BW: 2}, one_deal("p", "a c w 1", "b c w 1"), one_deal("q", "a c w 1", "b c w 1"))
    return moved(book, BW, "q", 0)


def falling():
    """Four deals, each of which brings to the next one what it gives; the last one in the order of names goes first."""
    return book_of({("d", "w"): 2}, one_deal("s", "d c w 2"), one_deal("r", "c b w 2"), one_deal("q", "b a w 2"),
                   one_deal("p", "a d w 2"))


def going_sets(book):
    return [names for names in sets_of(book.deals) if plainly_goes(book, names)]


class Looked(unittest.TestCase):
    def look_at_papers(self, book, found):
        names, papers = found
        self.assertEqual([name for name, paper in papers], names)
        for name, paper in papers:
            others = [other for other in names if other != name]
            self.assertEqual(walked(book, paper, others), [])
            self.assertEqual(plainly_left(book, paper, others), [])
            self.assertEqual(sorted(strike[0] for strike in paper), others)

    def look_at_knot(self, book, found):
        """All that [19] says of a knot of a small book, every part tried."""
        names = found[0]
        self.assertEqual(names, sorted(set(names)))
        self.assertTrue(set(names) <= set(book.deals))
        parts = [part for part in sets_of(names) if plainly_goes(book, part)]
        self.assertEqual(parts, [[], names])
        self.look_at_papers(book, found)


class Knot(Looked):
    def test_nothing_waits(self):
        self.assertIsNone(knot(empty()))
        self.assertIsNone(knot(laid(empty(), AW, 5)))
        self.assertIsNone(knot(lined(empty(), AW, 5)))

    def test_nothing_but_no_names_goes(self):
        self.assertIsNone(knot(chain()))
        self.assertIsNone(knot(taken(queue(), AW, 4)))
        self.assertIsNone(knot(done(queue(), ["m", "z"])))
        self.assertIsNone(knot(offered(empty(), one_deal("p", "a b w 1"))))

    def test_one_name(self):
        self.assertEqual(knot(queue()), (["z"], [("z", [])]))
        self.assertEqual(knot(done(queue(), ["z"])), (["m"], [("m", [])]))
        self.assertEqual(knot(offered(empty(), one_deal("p", "a b w 3", "b a w 3"))), (["p"], [("p", [])]))

    def test_one_name_of_a_chain_of_which_all_go(self):
        self.assertEqual(most(falling())[0], ["p", "q", "r", "s"])
        self.assertEqual(knot(falling()), (["s"], [("s", [])]))

    def test_room_of_a_line(self):
        book = lined(empty(), AW, 2)
        self.assertEqual(knot(offered(book, one_deal("p", "a b w 2"))), (["p"], [("p", [])]))
        self.assertIsNone(knot(offered(book, one_deal("p", "a b w 3"))))
        self.assertIsNone(knot(offered(taken(book, AW, 1), one_deal("p", "a b w 2"))))

    def test_a_ring_of_two(self):
        book = book_of({}, *ring_deals("pq", "ab"))
        self.assertEqual(knot(book), (["p", "q"], [("p", [("q", BW, None)]), ("q", [("p", AW, None)])]))

    def test_a_ring_of_three(self):
        papers = [("p", [("q", BW, None), ("r", CW, None)]), ("q", [("r", CW, None), ("p", AW, None)]),
                  ("r", [("p", AW, None), ("q", BW, None)])]
        self.assertEqual(knot(ring()), (["p", "q", "r"], papers))

    def test_rings_in_whatever_order_they_are_offered(self):
        for size in [2, 3, 4]:
            for order in itertools.permutations(ring_deals("pqrs"[:size], "abcd"[:size])):
                book = book_of({}, *order)
                found = knot(book)
                self.assertEqual(found[0], list("pqrs"[:size]))
                self.look_at_knot(book, found)
                self.assertEqual(knot(done(book, found[0])), None)

    def test_a_ring_with_one_amount_too_great(self):
        for size in [2, 3, 4]:
            for place in range(size):
                amounts = [3] * size
                amounts[place] = 4
                book = book_of({}, *ring_deals("pqrs"[:size], "abcd"[:size], "w", amounts))
                self.assertEqual(goes(book, list("pqrs"[:size])), False)
                self.assertIsNone(knot(book))
                giver = "abcd"[place]
                self.assertEqual(knot(laid(book, (giver, "w"), 1))[0], list("pqrs"[:size]))

    def test_a_ring_of_many_sides(self):
        book = book_of({}, one_deal("p", "a b w 3", "c d w 2"), one_deal("q", "b a w 3", "c a v 1"),
                       one_deal("r", "d c w 2", "a c v 1"))
        found = knot(book)
        self.assertEqual(found[0], ["p", "q", "r"])
        self.look_at_knot(book, found)

    def test_two_rings_that_do_not_touch(self):
        book = two_rings()
        one = knot(book)
        self.look_at_knot(book, one)
        behind = done(book, one[0])
        other = knot(behind)
        self.look_at_knot(behind, other)
        self.assertEqual(sorted([one[0], other[0]]), [["p", "r"], ["q", "s", "t"]])
        self.assertIsNone(knot(done(behind, other[0])))

    def test_two_rings_that_share_a_deal(self):
        book = book_of({}, one_deal("p", "a b w 1", "a c w 1"), one_deal("q", "b a w 1"), one_deal("r", "c a w 1"))
        found = knot(book)
        self.assertEqual(found[0], ["p", "q", "r"])
        self.look_at_knot(book, found)

    def test_one_that_goes_with_either_of_two_others(self):
        book = book_of({("e", "v"): 2, ("f", "w"): 1, ("g", "w"): 1}, one_deal("p", "a b w 1", "e c v 1", "e d v 1"),
                       one_deal("q", "c e v 1", "f a w 1"), one_deal("r", "d e v 1", "g a w 1"))
        self.assertEqual(going_sets(book), [[], ["p", "q"], ["p", "r"], ["p", "q", "r"]])
        found = knot(book)
        self.look_at_knot(book, found)

    def test_a_knot_of_rows_alone(self):
        self.assertEqual(knot(crossed()), (["p", "q"], [("p", [("q", AW, "p")]), ("q", [("p", BW, "q")])]))

    def test_one_that_may_not_go_ahead_of_another(self):
        book = book_of({AW: 1, CW: 5}, one_deal("z", "a b w 1", "c b w 1"), one_deal("a", "c b w 1"))
        self.assertEqual(knot(book), (["z"], [("z", [])]))
        book = taken(book, AW, 1)
        self.assertIsNone(knot(book))
        self.assertEqual(knot(moved(book, CW, "a", 0)), (["a"], [("a", [])]))

    def test_where_others_are_struck_from_the_start(self):
        book = offered(ring(), one_deal("o", "b d w 9"))
        found = knot(moved(book, BW, "o", 1))
        self.assertEqual(found[0], ["p", "q", "r"])
        self.look_at_knot(book, found)
        self.assertIsNone(knot(moved(book, BW, "o", 0)))

    def test_great_amounts(self):
        deals = [one_deal("p", *[f"a b w {GREAT}"] * 8), one_deal("q", *[f"b a w {GREAT}"] * 8)]
        book = book_of({}, *deals)
        self.assertEqual(knot(book), (["p", "q"], [("p", [("q", BW, None)]), ("q", [("p", AW, None)])]))
        deals[1] = one_deal("q", *[f"b a w {GREAT}"] * 7, f"b a w {GREAT - 1}")
        self.assertIsNone(knot(book_of({}, *deals)))
        self.assertEqual(knot(laid(book_of({}, *deals), AW, 1))[0], ["p", "q"])

    def test_a_ring_of_a_hundred(self):
        book = book_of({}, *ring_deals(HUNDRED, HUNDRED))
        found = knot(book)
        self.assertEqual(found[0], HUNDRED)
        self.assertEqual([len(paper) for name, paper in found[1]], [99] * 100)
        self.look_at_papers(laid(book, ("no", "no"), 1), found)
        self.assertIsNone(knot(done(book, HUNDRED)))

    def test_every_part_tried_of_many_books(self):
        sizes = {0: 0, 1: 0, 2: 0, 3: 0, 4: 0}
        for book in [small_book(seed) for seed in range(600)] + [ring_book(seed) for seed in range(250)]:
            found = knot(book)
            if going_sets(book) == [[]]:
                self.assertIsNone(found)
                sizes[0] += 1
            else:
                self.look_at_knot(book, found)
                sizes[min(4, len(found[0]))] += 1
        self.assertGreater(min(sizes.values()), 10)

    def test_kinds(self):
        for book in [ring(), queue(), crossed(), two_rings()]:
            found = knot(book)
            self.assertIs(type(found), tuple)
            self.assertEqual([type(part) for part in found], [list, list])
            for pair in found[1]:
                self.assertIs(type(pair), tuple)
                self.assertEqual([type(part) for part in pair], [str, list])
                for strike in pair[1]:
                    self.assertEqual((type(strike), type(strike[1]), len(strike)), (tuple, tuple, 3))


class Plan(Looked):
    def look_at_plan(self, book, told):
        """All that [20] says of a plan of a small book; the book behind it is given back."""
        names = sorted(name for found in told for name in found[0])
        self.assertEqual(names, greatest(book, list(book.deals)))
        self.assertEqual(names, most(book)[0])
        for found in told:
            self.look_at_knot(book, found)
            book = done(book, found[0])
        self.assertEqual(going_sets(book), [[]])
        return book

    def test_nothing_goes(self):
        self.assertEqual(plan(empty()), [])
        self.assertEqual(plan(laid(empty(), AW, 5)), [])
        self.assertEqual(plan(chain()), [])
        self.assertEqual(plan(taken(queue(), AW, 4)), [])

    def test_one_knot(self):
        for book in [ring(), crossed(), offered(ring(), one_deal("o", "b d w 9")), done(queue(), ["z"])]:
            self.assertEqual(plan(book), [knot(book)])

    def test_a_row(self):
        self.assertEqual(plan(queue()), [(["z"], [("z", [])]), (["m"], [("m", [])])])
        self.assertEqual(plan(moved(queue(), AW, "k", 0)), [(["k"], [("k", [])]), (["z"], [("z", [])])])

    def test_a_chain_in_which_each_goes_once_the_one_ahead_is_done(self):
        told = [(["s"], [("s", [])]), (["r"], [("r", [])]), (["q"], [("q", [])]), (["p"], [("p", [])])]
        self.assertEqual(plan(falling()), told)
        self.look_at_plan(falling(), told)

    def test_a_chain_of_a_hundred_either_way(self):
        for order in [HUNDRED, HUNDRED[::-1]]:
            deals = [one_deal(name, f"{name} {taker} w 1") for name, taker in zip(order, order[1:] + ["end"])]
            book = book_of({(order[0], "w"): 1}, *deals)
            self.assertEqual(plan(book), [([name], [(name, [])]) for name in order])

    def test_two_rings_that_do_not_touch(self):
        told = plan(two_rings())
        self.assertEqual(sorted(names for names, papers in told), [["p", "r"], ["q", "s", "t"]])
        self.look_at_plan(two_rings(), told)

    def test_a_ring_that_goes_once_another_is_done(self):
        book = book_of({("e", "v"): 1}, one_deal("r", "a b w 1"), one_deal("s", "b a w 1", "e c v 1"),
                       one_deal("p", "c d v 2"), one_deal("q", "d c v 1"))
        told = plan(book)
        self.look_at_plan(book, told)
        self.assertEqual([names for names, papers in told], [["r", "s"], ["p", "q"]])
        self.assertEqual(told[1][1], [("p", [("q", ("d", "v"), None)]), ("q", [("p", ("c", "v"), None)])])
        self.assertEqual(plan(taken(book, ("e", "v"), 1)), [])

    def test_papers_are_of_the_book_behind_those_ahead(self):
        book = book_of({AW: 1}, one_deal("z", "a x w 1"), *ring_deals("pq", "ab"))
        told = plan(book)
        self.assertEqual(told, [
            (["z"], [("z", [])]), (["p", "q"], [("p", [("q", BW, None)]), ("q", [("p", AW, None)])])])
        self.look_at_plan(book, told)

    def test_what_waits_on_stays(self):
        book = two_rings()
        for deal in [one_deal("x", "a b w 9"), one_deal("y", "a b w 1")]:
            book = offered(book, deal)
        behind = self.look_at_plan(book, plan(book))
        self.assertEqual(behind.rows, {AW: ["x", "y"]})

    def test_great_amounts(self):
        book = book_of({}, one_deal("p", f"a b w {GREAT}"), one_deal("q", f"b a w {GREAT}"),
                       one_deal("r", f"a b w {GREAT}", f"b a w {GREAT}"), one_deal("s", f"a c w {GREAT}"))
        told = plan(book)
        self.look_at_plan(book, told)
        self.assertEqual([names for names, papers in told], [["p", "q"], ["r"]])

    def test_a_hundred_of_eight_legs(self):
        deals = [one_deal(name, *[f"{giver} {taker} {ware} {len(HUNDRED)}" for ware in "stuvwxyz"])
                 for name, giver, taker in zip(HUNDRED, HUNDRED, HUNDRED[50:] + HUNDRED[:50])]
        book = book_of({}, *deals)
        told = plan(book)
        self.assertEqual(sorted(names for names, papers in told), [list(two) for two in zip(HUNDRED, HUNDRED[50:])])
        for found in told:
            self.look_at_papers(book, found)
            book = done(book, found[0])
        self.assertEqual(book.deals, {})

    def test_many_books(self):
        lengths = {0: 0, 1: 0, 2: 0, 3: 0}
        for book in [small_book(seed) for seed in range(500)] + [ring_book(seed) for seed in range(200)]:
            told = plan(book)
            self.look_at_plan(book, told)
            lengths[min(3, len(told))] += 1
        self.assertGreater(min(lengths.values()), 30)


class WhoseItIs(unittest.TestCase):
    def test_what_is_handed_in_stays(self):
        for book in [empty(), queue(), ring(), chain(), falling(), two_rings(), crossed()]:
            kept = values(book)
            knot(book)
            plan(book)
            self.assertEqual(values(book), kept)

    def test_what_is_told_is_the_askers_own(self):
        for book in [queue(), ring(), falling(), two_rings(), crossed()]:
            right = (values(book), repr(knot(book)), repr(plan(book)))
            for names, papers in [knot(book)] + plan(book):
                for name, paper in papers:
                    paper.append("new")
                names.reverse()
                names.append("new")
                papers.clear()
            told = plan(book)
            told.clear()
            self.assertEqual((values(book), repr(knot(book)), repr(plan(book))), right)

    def test_no_two_lists_told_are_one(self):
        lists = []
        for book in [queue(), ring(), two_rings()]:
            for names, papers in [knot(book), knot(book)] + plan(book):
                lists.extend([names, papers] + [paper for name, paper in papers])
        self.assertEqual(len({id(one) for one in lists}), len(lists))

    def test_what_was_told_stays_whatever_is_done_later(self):
        book = two_rings()
        told = plan(book), knot(book)
        right = repr(told)
        behind = done(book, told[1][0])
        plan(offered(laid(behind, AW, 4), one_deal("new", "a b w 1")))
        self.assertEqual(repr(told), right)

    def test_the_same_one_each_time_for_equal_books(self):
        for book in [small_book(seed) for seed in range(200)] + [ring_book(seed) for seed in range(200)]:
            other = Book(*turned(book))
            self.assertEqual(values(other), values(book))
            self.assertEqual(knot(other), knot(book))
            self.assertEqual(plan(other), plan(book))
            self.assertEqual((knot(book), plan(book)), (knot(book), plan(book)))


if __name__ == "__main__":
    unittest.main()
