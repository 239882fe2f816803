import itertools
import random
import unittest

from dealknot.books import Book, empty, laid, lined, offered, taken
from dealknot.deals import deal_of
from dealknot.deeds import Bell, Deed, Lay, Line, Off, Offer, Put, Take
from dealknot.errors import NoAmount, NoName, NotForetold, NotWaiting, TooLittle, Twice
from dealknot.going import done
from dealknot.history import first_day, foretold, run
from small_books import (
    GREAT, assert_refused, book_of, chain, faults, one_deal, queue, ring, ring_book, small_book, some_legs, turned,
    values)

AW, BW, CW = ("a", "w"), ("b", "w"), ("c", "w")


def offer(name, *legs):
    return Offer(one_deal(name, *legs))


class Run(unittest.TestCase):
    def told(self, book, deeds):
        behind, bells = run(book, deeds)
        return (values(behind), bells)

    def test_no_deeds(self):
        for book in [empty(), queue(), ring(), chain()]:
            self.assertEqual(self.told(book, []), (values(book), []))

    def test_no_bell(self):
        deeds = [Lay(AW, 3), offer("p", "a b w 2"), Line(BW, 1), offer("q", "a b w 2"), Put(AW, "q", 0), Off("p"),
                 Take(AW, 1), Deed()]
        self.assertEqual(self.told(empty(), deeds), (
            ({AW: 2}, {BW: 1}, {"q": one_deal("q", "a b w 2")}, {AW: ["q"]}), []))

    def test_one_bell(self):
        behind, bells = run(queue(), [Bell()])
        self.assertEqual((values(behind), bells), (values(done(queue(), ["m", "z"])), [["m", "z"]]))

    def test_several_bells(self):
        deeds = [Bell(), Lay(AW, 1), Bell(), Bell(), offer("z", "a b w 2"), Lay(AW, 2), Deed(), Bell()]
        self.assertEqual(self.told(queue(), deeds), (({BW: 5, CW: 3}, {}, {}, {}), [["m", "z"], ["k"], [], ["z"]]))
        self.assertEqual(run(empty(), [Bell(), Bell(), Bell()])[1], [[], [], []])

    def test_they_are_done_in_their_turn(self):
        self.assertEqual(self.told(empty(), [Lay(AW, 3), Take(AW, 3)]), (({}, {}, {}, {}), []))
        assert_refused(self, TooLittle, run, empty(), [Take(AW, 3), Lay(AW, 3)])
        deeds = [offer("p", "a b w 1"), offer("q", "a b w 1"), Lay(AW, 1), Bell()]
        self.assertEqual(run(empty(), deeds)[1], [["p"]])
        self.assertEqual(run(empty(), [deeds[1], deeds[0]] + deeds[2:])[1], [["q"]])

    def test_one_deed_object_at_several_places(self):
        lay, bell = Lay(AW, 2), Bell()
        self.assertEqual(run(empty(), [lay, offer("p", "a b w 4"), bell, lay, bell, lay])[1], [[], ["p"]])

    def test_a_refusal_of_a_deed_is_that_of_all(self):
        wrong = [
            (NoName, Lay("a", 1)), (NoAmount, Lay(AW, 0)), (TooLittle, Take(AW, 100)), (Twice, offer("k", "a b w 1")),
            (NotWaiting, Off("none")), (NotWaiting, Put(BW, "k", 0))]
        good = [Lay(AW, 1), Line(BW, 2), offer("p", "c b w 2")]
        for refusal, deed in wrong:
            for place in range(len(good) + 1):
                book = queue()
                assert_refused(self, refusal, run, book, good[:place] + [deed] + good[place:])
                self.assertEqual(values(book), values(queue()))

    def test_the_first_refusal_is_told(self):
        assert_refused(self, NotWaiting, run, empty(), [Off("p"), Take(AW, 1)])
        assert_refused(self, TooLittle, run, empty(), [Take(AW, 1), Off("p")])

    def test_what_a_bell_did_can_be_refused_afterwards(self):
        assert_refused(self, NotWaiting, run, queue(), [Bell(), Off("z")])
        assert_refused(self, TooLittle, run, queue(), [Bell(), Take(AW, 1)])
        self.assertEqual(run(queue(), [Bell(), offer("z", "a b w 1")])[0].rows, {AW: ["k", "z"]})

    def test_what_is_handed_in_stays(self):
        book, deeds = queue(), [Bell(), Lay(AW, 1), Bell()]
        kept = list(deeds)
        run(book, deeds)
        self.assertEqual(values(book), values(queue()))
        self.assertEqual(deeds, kept)

    def test_what_is_told_is_the_askers_own(self):
        deeds = [Bell(), Bell(), Bell()]
        behind, bells = run(queue(), deeds)
        deeds.append(Lay(AW, 1))
        for names in bells:
            names.append("new")
        self.assertEqual(bells, [["m", "z", "new"], ["new"], ["new"]])
        bells.append("new")
        self.assertEqual(run(queue(), deeds)[1], [["m", "z"], [], []])
        self.assertEqual(values(behind), values(done(queue(), ["m", "z"])))

    def test_kinds(self):
        for deeds in [[], [Bell()], [Lay(AW, 1)]]:
            told = run(queue(), deeds)
            self.assertEqual([type(told), len(told), type(told[0]), type(told[1])], [tuple, 2, Book, list])
            self.assertTrue(all(type(names) is list for names in told[1]))

    def test_three_hundred_deeds(self):
        deeds = [Lay(AW, 1), offer("p", "a b w 1"), Bell()] * 100
        self.assertEqual(self.told(empty(), deeds), (({BW: 100}, {}, {}, {}), [["p"]] * 100))


def rows_kept(deals, others):
    """True where the deals of these two lists, the same ones, stand in the same order within each row."""
    def by_row(some):
        rows = {}
        for deal in some:
            for shelf in {(leg[0], leg[2]) for leg in deal[1]}:
                rows.setdefault(shelf, []).append(deal[0])
        return rows
    return by_row(deals) == by_row(others)


def other_turn(chance, deals):
    """The deals in another turn, with the same order kept within each row."""
    turn = list(deals)
    for step in range(3 * len(deals)):
        place = chance.randint(1, max(1, len(turn) - 1))
        swapped = turn[:place - 1] + turn[place - 1:place + 1][::-1] + turn[place + 1:]
        if rows_kept(deals, swapped):
            turn = swapped
    return turn


def other_layings(chance, layings):
    """As much on each shelf, in other parts and in another turn."""
    parts = []
    for shelf, amount in layings:
        first = chance.randint(1, amount)
        parts.extend((shelf, part) for part in [first, amount - first] if part > 0)
    chance.shuffle(parts)
    return parts


def shuffled_together(chance, *lists):
    """All things of these lists, each list in its order."""
    waiting, told = [list(one) for one in lists if one], []
    while waiting:
        told.append(chance.choice(waiting).pop(0))
        waiting = [one for one in waiting if one]
    return told


class LastBells(unittest.TestCase):
    """[26]: histories of Lay, Offer and Bell that end with a Bell."""

    def history(self, chance, deals, layings):
        offers = [Offer(deal) for deal in other_turn(chance, deals)]
        lays = [Lay(shelf, amount) for shelf, amount in other_layings(chance, layings)]
        bells = [Bell() for turn in range(chance.choice([0, 1, 2, 5]))]
        return shuffled_together(chance, offers, lays, bells) + [Bell()]

    def drawn(self, chance):
        names = ["".join(two) for two in itertools.product("xyz", repeat=2)][:chance.randint(1, 7)]
        deals = [deal_of(name, some_legs(chance, "abcd", "vw")) for name in names]
        layings = [((chance.choice("abcd"), chance.choice("vw")), chance.randint(1, 6))
                   for turn in range(chance.randint(2, 8))]
        return deals, layings

    def test_many_histories(self):
        ways, some = 0, 0
        for seed in range(150):
            chance = random.Random(seed)
            book = chance.choice([empty(), small_book(seed), ring_book(seed)])
            deals, layings = self.drawn(chance)
            told = [run(book, self.history(chance, deals, layings)) for turn in range(6)]
            right = values(told[0][0])
            for behind, bells in told:
                self.assertEqual(values(behind), right)
                self.assertEqual(faults(behind), [])
                self.assertEqual(sorted(sum(bells, [])), sorted(sum(told[0][1], [])))
            ways += len({repr([names for names in bells if names]) for behind, bells in told}) > 1
            some += right[2] != {} and sum(told[0][1], []) != []
        # The drawn histories are no idle ones: in many of them deals are done at other bells, and some wait on.
        self.assertGreater(ways, 50)
        self.assertGreater(some, 50)

    def test_every_turn_with_every_bell(self):
        deeds = [Lay(AW, 2), Lay(CW, 1), offer("p", "a b w 2"), offer("q", "b c w 1"), offer("r", "c a w 2")]
        right = values(run(empty(), deeds + [Bell()])[0])
        self.assertEqual(right, ({AW: 2, BW: 1}, {}, {}, {}))
        done_at = set()
        for turn in itertools.permutations(deeds):
            for rung in itertools.product([False, True], repeat=len(deeds)):
                history = []
                for deed, rings in zip(turn, rung):
                    history.extend([deed, Bell()] if rings else [deed])
                behind, bells = run(empty(), history + [Bell()])
                self.assertEqual(values(behind), right)
                done_at.add(" | ".join(" ".join(names) for names in bells if names))
        self.assertEqual(done_at, {"p q r", "p | q r", "p q | r", "p | q | r"})

    def test_the_order_within_a_row_counts(self):
        deals = [offer("p", "a b w 3"), offer("q", "a c w 3")]
        one = run(empty(), deals + [Lay(AW, 3), Bell()])[0]
        other = run(empty(), deals[::-1] + [Lay(AW, 3), Bell()])[0]
        self.assertEqual((list(one.deals), list(other.deals)), (["q"], ["p"]))

    def test_a_last_bell_counts(self):
        deeds = [offer("p", "a b w 3"), Bell(), Lay(AW, 3)]
        self.assertEqual(list(run(empty(), deeds)[0].deals), ["p"])
        self.assertEqual(list(run(empty(), deeds + [Bell()])[0].deals), [])


class Foretold(unittest.TestCase):
    def test_an_empty_agenda(self):
        for book in [empty(), queue(), ring()]:
            self.assertEqual(foretold(book, []), [])

    def test_a_day(self):
        self.assertEqual(foretold(queue(), [(4, Lay(BW, 1))]), [(4, ["m", "z"])])
        self.assertEqual(foretold(queue(), [(4, Lay(AW, 1))]), [(4, ["k", "m", "z"])])
        self.assertEqual(foretold(empty(), [(4, Lay(AW, 1))]), [(4, [])])

    def test_days_out_of_order(self):
        agenda = [(9, Lay(AW, 1)), (2, offer("p", "a b w 1")), (5, Lay(BW, 4)), (7, offer("q", "b c w 5"))]
        for turn in itertools.permutations(agenda):
            self.assertEqual(foretold(empty(), list(turn)), [(2, []), (5, []), (7, []), (9, ["p", "q"])])

    def test_each_day_once_and_rising(self):
        agenda = [(3, Lay(AW, 1)), (1, Lay(AW, 1)), (3, Lay(BW, 1)), (1, Lay(("x", "w"), 1)), (2, Lay(BW, 1))]
        self.assertEqual(foretold(chain(), agenda), [(1, ["p"]), (2, ["q", "t"]), (3, [])])

    def test_deeds_of_one_day_in_the_order_of_the_agenda(self):
        one, other = (1, offer("p", "a b w 1")), (1, offer("q", "a b w 1"))
        self.assertEqual(foretold(empty(), [one, other, (1, Lay(AW, 1))]), [(1, ["p"])])
        self.assertEqual(foretold(empty(), [other, one, (1, Lay(AW, 1))]), [(1, ["q"])])
        agenda = [other, (0, Lay(AW, 1)), one, (2, Lay(AW, 1))]
        self.assertEqual(foretold(empty(), agenda), [(0, []), (1, ["q"]), (2, ["p"])])

    def test_one_bell_a_day(self):
        agenda = [(1, offer("p", "a b w 1")), (1, Lay(AW, 1)), (1, offer("q", "b a w 1"))]
        self.assertEqual(foretold(empty(), agenda), [(1, ["p", "q"])])

    def test_what_a_day_leaves_is_there_on_later_ones(self):
        agenda = [(day, Lay(AW, 1)) for day in range(5)]
        book = book_of({}, one_deal("p", "a b w 2"), one_deal("q", "b a w 1"), one_deal("r", "a b w 2"))
        self.assertEqual(foretold(book, agenda), [(0, ["p", "q"]), (1, []), (2, ["r"]), (3, []), (4, [])])

    def test_negative_days_and_great_ones(self):
        agenda = [(GREAT, Lay(AW, 1)), (0, Lay(BW, 1)), (-GREAT, Lay(CW, 1)), (-1, Lay(BW, 1)), (1, Lay(BW, 1)),
                  (GREAT - 1, offer("p", "a b w 1"))]
        days = [-GREAT, -1, 0, 1, GREAT - 1, GREAT]
        self.assertEqual(foretold(empty(), agenda), list(zip(days, [[], [], [], [], [], ["p"]])))

    def test_a_name_again(self):
        agenda = [(day, deed) for day in [1, 2] for deed in [offer("p", "a b w 1"), Lay(AW, 1)]]
        self.assertEqual(foretold(empty(), agenda), [(1, ["p"]), (2, ["p"])])
        self.assertEqual(first_day(empty(), agenda, "p"), 1)

    def test_as_a_history_with_bells(self):
        for seed in range(100):
            chance = random.Random(seed)
            book = small_book(seed)
            deeds = [Lay((chance.choice("abcd"), chance.choice("vw")), chance.randint(1, 5)) for turn in range(5)]
            deeds.extend(Offer(deal_of(name, some_legs(chance, "abcd", "vw"))) for name in ["x", "y", "z"])
            agenda = [(chance.randint(-3, 3), deed) for deed in deeds]
            days = sorted({day for day, deed in agenda})
            history = []
            for day in days:
                history.extend([deed for other, deed in agenda if other == day] + [Bell()])
            self.assertEqual(foretold(book, agenda), list(zip(days, run(book, history)[1])))
            self.assertEqual(foretold(Book(*turned(book)), agenda), foretold(book, agenda))

    def test_another_deed(self):
        others = [Deed(), Bell(), Take(AW, 1), Line(AW, 1), Off("z"), Put(AW, "z", 0)]
        good = [(2, Lay(AW, 1)), (1, offer("p", "a b w 1")), (3, Lay(AW, 1))]
        for other in others:
            for place in range(len(good) + 1):
                for day in [0, 2, 9]:
                    agenda = good[:place] + [(day, other)] + good[place:]
                    for book in [empty(), queue()]:
                        assert_refused(self, NotForetold, foretold, book, agenda)
                        assert_refused(self, NotForetold, first_day, book, agenda, "p")

    def test_another_deed_is_told_ahead_of_all_else(self):
        wrong = [Lay("a", 1), Lay(AW, 0), offer("z", "a b w 1")]
        for deed in wrong:
            for other in [Deed(), Bell(), Take(AW, 100), Off("none"), Line("a", -1)]:
                for agenda in [[(1, deed), (2, other)], [(2, other), (1, deed)], [(1, deed), (0, other)],
                               [(1, deed), (1, other)]]:
                    assert_refused(self, NotForetold, foretold, queue(), agenda)
                    assert_refused(self, NotForetold, first_day, queue(), agenda, "z")

    def test_a_refusal_of_a_deed_is_the_agendas(self):
        wrong = [(NoName, Lay("a", 1)), (NoName, Lay(("a", "W"), 1)), (NoAmount, Lay(AW, 0)),
                 (NoAmount, Lay(AW, GREAT + 1)), (Twice, offer("k", "a b w 1"))]
        for refusal, deed in wrong:
            for agenda in [[(1, deed)], [(1, Lay(AW, 1)), (1, deed)], [(5, deed), (1, Lay(BW, 1))]]:
                agenda = agenda + [(7, Lay(CW, 1))]
                assert_refused(self, refusal, foretold, taken(queue(), AW, 5), agenda)
                # Also where the name is done on a day ahead of it.
                for name in ["z", "k", "none"]:
                    assert_refused(self, refusal, first_day, lined(taken(queue(), AW, 5), AW, 2), agenda, name)

    def test_the_first_refusal_by_days(self):
        agenda = [(2, Lay(AW, 0)), (1, Lay("a", 1)), (3, offer("k", "a b w 1"))]
        assert_refused(self, NoName, foretold, taken(queue(), AW, 5), agenda)
        assert_refused(self, NoAmount, foretold, taken(queue(), AW, 5), [agenda[0], agenda[2]])
        assert_refused(self, Twice, foretold, taken(queue(), AW, 5), [(0, agenda[2][1]), agenda[0], agenda[1]])

    def test_twice_hangs_on_what_is_done_ahead(self):
        again = offer("z", "b c w 1")
        self.assertEqual(foretold(queue(), [(1, Lay(BW, 1)), (2, again)]), [(1, ["m", "z"]), (2, ["z"])])
        assert_refused(self, Twice, foretold, queue(), [(1, Lay(BW, 1)), (1, again)])

    def test_what_is_handed_in_stays(self):
        book, agenda = queue(), [(5, Lay(AW, 1)), (2, offer("p", "a b w 1")), (5, Lay(BW, 1))]
        kept = list(agenda)
        foretold(book, agenda)
        first_day(book, agenda, "k")
        self.assertEqual(values(book), values(queue()))
        self.assertEqual(agenda, kept)
        assert_refused(self, NotForetold, foretold, book, agenda + [(0, Bell())])
        self.assertEqual(values(book), values(queue()))

    def test_what_is_told_is_the_askers_own(self):
        agenda = [(5, Lay(AW, 1)), (2, Lay(BW, 1)), (9, Lay(BW, 1)), (8, Lay(BW, 1))]
        told = foretold(queue(), agenda)
        right = [(2, ["m", "z"]), (5, ["k"]), (8, []), (9, [])]
        self.assertEqual(told, right)
        agenda.append((1, Lay(AW, 9)))
        self.assertEqual(told, right)
        for day, names in told:
            names.append("new")
        self.assertEqual([names for day, names in told], [["m", "z", "new"], ["k", "new"], ["new"], ["new"]])
        self.assertEqual(foretold(queue(), agenda[:4]), right)

    def test_kinds(self):
        told = foretold(queue(), [(5, Lay(AW, 1)), (2, Lay(BW, 1))])
        self.assertIs(type(told), list)
        for pair in told:
            self.assertEqual([type(pair), type(pair[0]), type(pair[1])], [tuple, int, list])

    def test_three_hundred_days(self):
        names = ["".join(two) for two in itertools.product("abcdefghij", repeat=2)]
        agenda = [(-day, Lay(AW, 1)) for day in range(200)]
        agenda.extend((place - 250, offer(name, "a b w 2")) for place, name in enumerate(names))
        right = [(day, []) for day in range(-250, -199)]
        # Two days bring what the next name needs; at the end all hundred are done.
        for day in range(-199, 1):
            right.append((day, [names[(day + 199) // 2]] if day % 2 == 0 else []))
        self.assertEqual(foretold(empty(), agenda), right)


class FirstDay(unittest.TestCase):
    AGENDA = [(7, Lay(AW, 1)), (-3, Lay(BW, 1)), (5, Lay(AW, 3)), (5, offer("p", "c a w 4")), (9, Lay(BW, 1))]

    def test_the_first_day(self):
        self.assertEqual([first_day(queue(), self.AGENDA, name) for name in "zm"], [-3, -3])

    def test_a_later_one(self):
        self.assertEqual(first_day(queue(), self.AGENDA, "k"), 5)
        self.assertEqual(first_day(queue(), self.AGENDA, "p"), None)
        self.assertEqual(first_day(queue(), [(8, Lay(CW, 1))] + self.AGENDA, "p"), 8)

    def test_a_day_of_0_is_a_day(self):
        told = first_day(queue(), [(0, Lay(BW, 1)), (1, Lay(BW, 1))], "z")
        self.assertEqual((told, type(told)), (0, int))

    def test_none(self):
        for name in ["x", "none", "", "a", "lay"]:
            self.assertIsNone(first_day(queue(), self.AGENDA, name))
        self.assertIsNone(first_day(queue(), [], "z"))
        self.assertIsNone(first_day(chain(), [(1, Lay(AW, 1))], "t"))

    def test_as_it_is_foretold(self):
        for seed in range(100):
            chance = random.Random(seed)
            book = small_book(seed)
            agenda = [(chance.randint(-2, 2), Lay((chance.choice("abcd"), chance.choice("vw")), chance.randint(1, 4)))
                      for turn in range(6)]
            told = foretold(book, agenda)
            for name in sorted(book.deals):
                days = [day for day, names in told if name in names]
                self.assertEqual(first_day(book, agenda, name), days[0] if days else None)


if __name__ == "__main__":
    unittest.main()
