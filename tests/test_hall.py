import inspect
import unittest

from dealknot.books import Book
from dealknot.errors import HallError, NoBack, NoRow, NotWaiting, TooLittle, Twice
from dealknot.hall import Hall
from dealknot.knots import plan
from dealknot.reasons import reason
from dealknot.strikes import most
from dealknot.texts import come_up, written
from dealknot.wants import spare, want
from small_books import GREAT, assert_refused, one_deal, ring_book, shelves_of, small_book, values
from small_halls import NOT_TEXTS, hall_of

AW, BW, CW = ("a", "w"), ("b", "w"), ("c", "w")
QUEUE = ["lay a w 5", "deal z a b w 2", "deal m a c w 3", "deal k a b w 1"]
RING = ["deal p a b w 3", "deal q b c w 3", "deal r c a w 3"]
CHAIN = ["deal p a x w 1", "deal q b a w 1", "deal r c b w 1", "deal s d c w 1", "deal t a x w 1"]
QUESTIONS = ["most", "plan", "why k", "want k a w", "spare a w", "has a w", "row a w"]


def said(hall, *rows):
    """What the hall answers to these rows, one behind the other."""
    return [hall.say(row) for row in rows]


def state(hall):
    """All that can be seen of a hall: its book, its rows, and what it goes back to, step by step."""
    told = [(values(hall.book), hall.told())]
    rows = hall.told()
    for row in rows:
        hall.say("back")
        told.append((values(hall.book), hall.told()))
    for row in rows:
        hall.say(row)
    return told


class New(unittest.TestCase):
    def test_its_book_is_the_empty_one(self):
        hall = Hall()
        self.assertIsInstance(hall.book, Book)
        self.assertEqual(values(hall.book), ({}, {}, {}, {}))
        self.assertEqual(hall.told(), [])

    def test_two_halls_do_not_meet(self):
        one, other = Hall(), Hall()
        said(one, *QUEUE)
        self.assertEqual((values(other.book), other.told()), (({}, {}, {}, {}), []))
        assert_refused(self, NoBack, other.say, "back")

    def test_arguments(self):
        self.assertEqual(list(inspect.signature(Hall).parameters), [])
        self.assertEqual(list(inspect.signature(Hall().say).parameters), ["row"])
        self.assertEqual(list(inspect.signature(Hall().told).parameters), [])


class Deeds(unittest.TestCase):
    def test_each_row_of_a_deed(self):
        hall = Hall()
        rows = ["lay a w 3", "take a w 1", "line b w 2", "deal p a b w 2, b a v 1", "deal q a b w 2", "put a w q 0",
                "off p"]
        self.assertEqual(said(hall, *rows), ["done"] * 7)
        self.assertEqual(values(hall.book), ({AW: 2}, {BW: 2}, {"q": one_deal("q", "a b w 2")}, {AW: ["q"]}))
        self.assertEqual(hall.say("bell"), "done q")
        self.assertEqual(values(hall.book), ({BW: 2}, {BW: 2}, {}, {}))

    def test_bells(self):
        self.assertEqual(said(hall_of(*QUEUE), "bell", "bell", "lay a w 1", "bell"), [
            "done m z", "done", "done", "done k"])
        self.assertEqual(said(hall_of(*RING), "bell", "bell"), ["done p q r", "done"])
        self.assertEqual(said(hall_of(*CHAIN), "bell", "lay d w 1", "bell"), ["done", "done", "done p q r s"])
        self.assertEqual(Hall().say("bell"), "done")

    def test_names_like_other_words(self):
        hall = hall_of("lay bell most 3", *[f"deal {name} bell back most 1" for name in ["done", "none", "back"]])
        self.assertEqual(said(hall, "row bell most", "most", "bell"), [
            "done none back", "back done none", "done back done none"])

    def test_refusals_of_deeds(self):
        hall = hall_of(*QUEUE)
        right = state(hall)
        for refusal, row in [(TooLittle, "take a w 6"), (TooLittle, "take b w 1"), (Twice, "deal z b a w 1"),
                             (NotWaiting, "off x"), (NotWaiting, "put b w z 0"), (NotWaiting, "put a w x 0")]:
            assert_refused(self, refusal, hall.say, row)
            self.assertEqual(state(hall), right)
        hall = hall_of("line a w 3", "take a w 2")
        assert_refused(self, TooLittle, hall.say, "line a w 1")
        self.assertEqual(hall.say("has a w"), "-2 3")

    def test_the_book_told_ahead_stays(self):
        hall = hall_of(*QUEUE)
        book = hall.book
        right = values(book)
        said(hall, "bell", "lay a w 9", "bell", "back", "back", "back", "off z", "put a w k 0")
        self.assertEqual(values(book), right)

    def test_great_numbers(self):
        hall = hall_of(f"lay a w {GREAT}", f"lay a w {GREAT}", f"line b w {GREAT}", f"take b w {GREAT}")
        self.assertEqual(said(hall, "has a w", "has b w", "spare a w"), [
            f"{2 * GREAT} 0", f"-{GREAT} {GREAT}", str(2 * GREAT)])
        hall.say("deal p " + ", ".join([f"a b w {GREAT}"] * 8))
        self.assertEqual(said(hall, "want p a w", "bell"), [str(6 * GREAT), "done"])
        said(hall, *[f"lay a w {GREAT}"] * 6)
        self.assertEqual(said(hall, "want p a w", "bell", "has b w"), ["0", "done p", f"{7 * GREAT} {GREAT}"])


class Back(unittest.TestCase):
    def test_nothing_to_go_back_to(self):
        hall = Hall()
        assert_refused(self, NoBack, hall.say, "back")
        hall.say("lay a w 1")
        self.assertEqual(hall.say("back"), "back")
        for turn in range(3):
            assert_refused(self, NoBack, hall.say, "back")
        self.assertEqual((values(hall.book), hall.told()), (({}, {}, {}, {}), []))

    def test_over_deeds_and_bells(self):
        rows = QUEUE + ["bell", "lay a w 1", "line b w 2", "bell", "take b w 5", "deal z b a w 1", "off z", "bell"]
        hall = Hall()
        kept = []
        for row in rows:
            kept.append(values(hall.book))
            hall.say(row)
        while kept:
            self.assertEqual(hall.say("back"), "back")
            self.assertEqual(values(hall.book), kept.pop())
            self.assertEqual(hall.told(), rows[:len(kept)])
        assert_refused(self, NoBack, hall.say, "back")

    def test_behind_new_deeds(self):
        hall = hall_of(*QUEUE)
        self.assertEqual(said(hall, "bell", "back", "off m", "bell", "row a w"), [
            "done m z", "back", "done", "done k z", "none"])
        self.assertEqual(said(hall, "back", "back", "row a w"), ["back", "back", "z m k"])
        self.assertEqual(said(hall, "back", "lay c w 1", "back", "row a w"), ["back", "done", "back", "z m"])
        self.assertEqual(hall.told(), QUEUE[:3])

    def test_refusals_and_questions_are_no_deeds(self):
        hall = hall_of("lay a w 5", "lay a w 1")
        for refusal, row in [(TooLittle, "take a w 9"), (NotWaiting, "off p"), (NoRow, ""), (NoRow, None)]:
            assert_refused(self, refusal, hall.say, row)
        said(hall, "most", "plan", "spare a w", "has a w", "row a w")
        self.assertEqual(said(hall, "back", "has a w"), ["back", "5 0"])
        self.assertEqual(said(hall, "back", "has a w"), ["back", "0 0"])
        assert_refused(self, NoBack, hall.say, "back")

    def test_a_bell_that_does_nothing_is_a_deed(self):
        hall = hall_of("lay a w 5", "bell")
        self.assertEqual(said(hall, "back", "has a w", "back", "has a w"), ["back", "5 0", "back", "0 0"])


class Questions(unittest.TestCase):
    def test_of_an_empty_hall(self):
        self.assertEqual(said(Hall(), "most", "plan", "spare a w", "has a w", "row a w"), [
            "none", "none", "0", "0 0", "none"])
        for row in ["why p", "want p a w"]:
            assert_refused(self, NotWaiting, Hall().say, row)

    def test_most(self):
        self.assertEqual(hall_of(*QUEUE).say("most"), "m z")
        self.assertEqual(hall_of(*RING).say("most"), "p q r")
        self.assertEqual(hall_of(*CHAIN).say("most"), "none")
        self.assertEqual(hall_of("lay a w 1", "deal none a b w 1").say("most"), "none")

    def test_plan(self):
        self.assertEqual(hall_of(*RING).say("plan"), "p q r")
        self.assertEqual(hall_of(*QUEUE).say("plan"), "z; m")
        self.assertEqual(hall_of(*CHAIN).say("plan"), "none")
        self.assertEqual(hall_of("lay a w 1", "deal none a b w 1").say("plan"), "none")
        told = hall_of(*QUEUE, "deal y x z v 1", "deal x z x v 1").say("plan").split("; ")
        self.assertEqual(sorted(told), ["m", "x y", "z"])
        self.assertLess(told.index("z"), told.index("m"))

    def test_why(self):
        self.assertEqual(said(hall_of(*QUEUE), "why z", "why m", "why k"), ["goes", "goes", "k a w short"])
        self.assertEqual(said(hall_of(*RING), "why p", "why q", "why r"), ["goes", "goes", "goes"])
        hall = hall_of(*CHAIN)
        self.assertEqual(hall.say("why s"), "s d w short")
        self.assertEqual(hall.say("why r"), "s d w short; r c w short")
        self.assertEqual(hall.say("why p"), "s d w short; r c w short; q b w short; p a w short")
        hall = hall_of("lay b w 9", "deal p a x w 4, b x w 1", "deal q b x w 1")
        self.assertEqual(said(hall, "why p", "why q"), ["p a w short", "p a w short; q b w behind p"])
        self.assertEqual(hall_of("deal goes a b w 1", "lay a w 1").say("why goes"), "goes")

    def test_want(self):
        hall = hall_of(*QUEUE)
        self.assertEqual(said(hall, "want z a w", "want m b w", "want k a w"), ["0", "0", "1"])
        self.assertEqual(said(hall, "want k b w", "want k w a", "want k x y"), ["never", "never", "never"])
        self.assertEqual(said(hall_of(*CHAIN), "want p d w", "want t a w", "want t d w"), ["1", "2", "never"])
        hall = hall_of(f"deal p a b w {GREAT}", f"deal q a b w {GREAT}")
        self.assertEqual(said(hall, "want p a w", "want q a w"), [str(GREAT), str(2 * GREAT)])

    def test_spare(self):
        hall = hall_of(*QUEUE)
        self.assertEqual(said(hall, "spare a w", "spare b w", "spare w a"), ["0", "0", "0"])
        self.assertEqual(said(hall_of(*QUEUE[:3], "lay a w 4"), "spare a w"), ["4"])
        self.assertEqual(said(hall_of("line a w 4", "take a w 3"), "spare a w"), ["1"])

    def test_has(self):
        hall = hall_of("lay a w 3", "line b w 4", "take b w 4", "lay c w 1", "line c w 10")
        self.assertEqual(said(hall, "has a w", "has b w", "has c w", "has d w", "has w a"), [
            "3 0", "-4 4", "1 10", "0 0", "0 0"])

    def test_row(self):
        hall = hall_of(*QUEUE)
        self.assertEqual(said(hall, "row a w", "row b w", "row w a"), ["z m k", "none", "none"])
        self.assertEqual(said(hall, "put a w k 0", "row a w", "bell", "row a w"), ["done", "k z m", "done k z", "m"])
        self.assertEqual(hall_of("deal none a b w 1").say("row a w"), "none")

    def test_not_waiting(self):
        for hall in [Hall(), hall_of(*QUEUE), hall_of(*QUEUE, "bell"), hall_of(*RING, "off p")]:
            right = state(hall)
            for row in ["why p", "want p a w", "want p x y", "why none", "want none a w"]:
                assert_refused(self, NotWaiting, hall.say, row)
            self.assertEqual(state(hall), right)
        assert_refused(self, NotWaiting, hall_of(*QUEUE, "bell").say, "why z")
        assert_refused(self, NotWaiting, hall_of(*QUEUE, "bell").say, "want z a w")

    def test_as_the_functions_tell(self):
        for book in [small_book(seed) for seed in range(60)] + [ring_book(seed) for seed in range(40)]:
            hall = hall_of(*written(book))
            right = state(hall)
            self.assertEqual(hall.say("most"), " ".join(most(book)[0]) or "none")
            self.assertEqual(hall.say("plan"), "; ".join(" ".join(names) for names, papers in plan(book)) or "none")
            for name in sorted(book.deals):
                paper = reason(book, name)
                self.assertEqual(hall.say("why " + name), "goes" if paper is None else "; ".join(
                    f"{one} {house} {ware} " + ("short" if other is None else "behind " + other)
                    for one, (house, ware), other in paper))
                for shelf in shelves_of(book):
                    amount = want(book, name, shelf)[0]
                    answer = "never" if amount is None else str(amount)
                    self.assertEqual(hall.say(f"want {name} " + " ".join(shelf)), answer)
            for shelf in shelves_of(book):
                words = " " + " ".join(shelf)
                self.assertEqual(hall.say("spare" + words), str(spare(book, shelf)))
                self.assertEqual(hall.say("has" + words), f"{book.stock.get(shelf, 0)} {book.lines.get(shelf, 0)}")
                self.assertEqual(hall.say("row" + words), " ".join(book.rows.get(shelf, [])) or "none")
            self.assertEqual(state(hall), right)

    def test_they_change_nothing(self):
        for hall in [hall_of(*QUEUE), hall_of(*QUEUE, "put a w k 0", "bell", "deal k a b w 9", "lay a w 1")]:
            right, book = state(hall), hall.book
            for row in QUESTIONS:
                first = hall.say(row)
                self.assertIs(type(first), str)
                self.assertEqual(hall.say(row), first)
                self.assertIs(hall.book, book)
                self.assertEqual(state(hall), right)
                book = hall.book


class NotRows(unittest.TestCase):
    def refused(self, rows):
        halls = [Hall(), hall_of(*QUEUE)]
        rights = [state(hall) for hall in halls]
        for row in rows:
            for hall in halls:
                assert_refused(self, NoRow, hall.say, row)
        self.assertEqual([state(hall) for hall in halls], rights)

    def test_no_text(self):
        self.refused(NOT_TEXTS)

    def test_no_words(self):
        self.refused(["", " ", "\n", "a", "k", "none", "done", "goes", "never", "3"])

    def test_no_row_of_a_deed(self):
        self.refused(["lay a w 0", "lay a w", "lay a w 3 3", "Lay a w 3", "take a w -1", "line a w 01",
                      "deal p a a w 1", "deal p a b w 1,", "off", "off K", "off k z", "put a w k", "put a w k 1 2",
                      "bells", "bell 1", "bell bell"])

    def test_wrong_backs(self):
        self.refused(["back ", " back", "back 1", "back back", "Back", "BACK", "back\n", "backs"])

    def test_blanks_and_line_ends(self):
        for row in QUESTIONS:
            self.refused([" " + row, "\n" + row])
            self.refused([row + sign for sign in [" ", "\n", "\t", "\r\n", ",", ";"]])
            self.refused([row.replace(" ", blank) for blank in ["  ", "\t", "\n", ", "] if " " in row])

    def test_a_word_too_few_or_too_many(self):
        for row in QUESTIONS:
            words = row.split(" ")
            self.refused([" ".join(words[:count]) for count in range(len(words))])
            self.refused([row + " a", row + " k", row + " 3", row + " most", words[0] + " " + row])

    def test_other_case(self):
        self.refused([row.upper() for row in QUESTIONS] + [row.title() for row in QUESTIONS])

    def test_what_is_no_name(self):
        for row in QUESTIONS:
            words = row.split(" ")
            for place in range(1, len(words)):
                for word in ["", "A", "K", "abcdefghi", "k1", "1", "0", "-", "k,", "k;", "a\n", "\u00e9"]:
                    self.refused([" ".join(words[:place] + [word] + words[place + 1:])])


class Told(unittest.TestCase):
    def test_the_rows_of_deeds(self):
        rows = QUEUE + ["put a w k 0", "bell", "line a w 1", "take a w 1", "bell", "off m", "bell"]
        self.assertEqual(hall_of(*rows).told(), rows)

    def test_no_refusals_questions_or_deeds_gone_back_behind(self):
        hall = hall_of("lay a w 5", "deal p a b w 2")
        for row in ["take a w 6", "off q", "lay", None, "deal p a b w 1", "why q", "back again"]:
            with self.assertRaises(HallError):
                hall.say(row)
        said(hall, "most", "bell", "plan", "has a w", "back", "lay c w 1", "back", "row a w", "take a w 1")
        self.assertEqual(hall.told(), ["lay a w 5", "deal p a b w 2", "take a w 1"])
        said(hall, "back", "back")
        self.assertEqual(hall.told(), ["lay a w 5"])
        hall.say("back")
        self.assertEqual(hall.told(), [])
        assert_refused(self, NoBack, hall.say, "back")
        self.assertEqual(hall.told(), [])

    def test_each_kind_with_its_edges(self):
        rows = [f"lay a w {GREAT}", "line abcdefgh z 0", f"line b w {GREAT}", "deal p " + ", ".join(["a b w 1"] * 8),
                f"put a w p {GREAT}", "put a w p 0", "bell", "bell", f"take b w {GREAT}"]
        self.assertEqual(hall_of(*rows).told(), rows)

    def test_the_list_is_the_askers_own(self):
        hall = hall_of(*QUEUE)
        told = hall.told()
        self.assertIs(type(told), list)
        told.clear()
        self.assertEqual(hall.told(), QUEUE)
        told = hall.told()
        said(hall, "bell", "back", "back")
        self.assertEqual(told, QUEUE)
        empty = Hall()
        empty.told().append("bell")
        self.assertEqual(empty.told(), [])

    def test_they_come_up_to_its_book(self):
        for rows in [[], QUEUE, QUEUE + ["bell"], RING + ["bell", "back", "off p"], CHAIN + ["put a w t 0"]]:
            hall = hall_of(*rows)
            self.assertEqual(values(come_up(hall.told())), values(hall.book))
            self.assertEqual(values(hall_of(*hall.told()).book), values(hall.book))

    def test_three_hundred_rows(self):
        rows = ["lay a w 1", "deal p a b w 1", "bell"] * 100
        hall = hall_of(*rows)
        self.assertEqual(hall.told(), rows)
        said(hall, *["back"] * 299)
        self.assertEqual(hall.told(), rows[:1])


if __name__ == "__main__":
    unittest.main()
