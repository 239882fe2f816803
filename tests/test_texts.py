import random
import unittest

from dealknot.books import Book, called_off, empty, laid, lined, moved, offered, taken
from dealknot.deeds import Bell, Deed, Lay, Line, Off, Offer, Put, Take
from dealknot.errors import NoRow, NotWaiting, TooLittle, Twice
from dealknot.texts import come_up, read, written
from small_books import (
    GREAT, assert_refused, book_of, chain, faults, one_deal, queue, ring, ring_book, small_book, turned, values)
from small_halls import NOT_TEXTS, PlainHall, drawn_row

AW, BW, CW, AV = ("a", "w"), ("b", "w"), ("c", "w"), ("a", "v")
LEG = "GIVER TAKER WARE AMOUNT"
FORMS = ["lay HOUSE WARE AMOUNT", "take HOUSE WARE AMOUNT", "line HOUSE WARE LINE", "deal NAME " + LEG,
         "deal NAME " + ", ".join([LEG] * 3), "deal NAME " + ", ".join([LEG] * 8), "off NAME",
         "put HOUSE WARE NAME PLACE", "bell"]
GOOD = {"HOUSE": "h", "WARE": "w", "NAME": "n", "GIVER": "g", "TAKER": "t", "AMOUNT": "3", "LINE": "3", "PLACE": "3"}
NAME_WORDS, NUMBER_WORDS = ["HOUSE", "WARE", "NAME", "GIVER", "TAKER"], ["AMOUNT", "LINE", "PLACE"]
NAMES = ["a", "z", "az", "none", "lay", "bell", "back", "done", "abcdefgh", "zzzzzzzz"]
NUMBERS = ["1", "9", "10", "11", "100", "909", "9007199254740993", "1" + "0" * 59, "1234567890" * 6, str(GREAT)]
NOT_NAMES = ["", "A", "aB", "abcdefghi", "a1", "1", "0", "a-b", "a_b", "a.", ",", "a,", "a;", "-", "a\n", "\na", "a\t",
             "a\r", "\u00e9", "\u0430", "\u00df", "\uff41", "a\u0301", "\u00aa", "NAME", "a" * 300]
NOT_NUMBERS = ["", "00", "01", "007", "0" * 60, "0" + "1" * 59, "1" + "0" * 60, "1" * 61, "1" * 6000, "+3", "-3", "-0",
               "+0", "3.0", "3.", "3e1", "3a", "a", "x3", "0x3", "1_0", "3,", "3;", "3\n", "\n3", "3\t", "3\r",
               "3\x0b", "3\xa0", "\u00b3", "\u0663", "\uff13", "1\u0663", "\u2212" "3", "\u2460", "True", "None",
               "three", "'3'", "(3)"]
UNKNOWN = ["lie", "laid", "la", "lays", "Lay", "LAY", "lay,", "offer", "Deal", "deals", "offf", "of", "Bell", "ring",
           "bells", "bell.", "Put", "back", "most", "plan", "why", "want", "spare", "has", "row", "done", "none", ""]


def filled(form, place=None, word=None):
    """A row of this form, of good words alone, but for the word at this place."""
    words = []
    for number, part in enumerate(form.split(" ")):
        plain = part.rstrip(",")
        good = GOOD.get(plain, plain)
        words.append((word if number == place else good) + part[len(plain):])
    return " ".join(words)


def places_of(form, kinds):
    return [place for place, part in enumerate(form.split(" ")) if part.rstrip(",") in kinds]


def with_words(kinds, words, forms=FORMS):
    """The rows of these forms in which one word of these kinds is one of these words."""
    return [filled(form, place, word) for form in forms for place in places_of(form, kinds) for word in words]


def right_rows():
    rows = [filled(form) for form in FORMS] + with_words(NAME_WORDS, NAMES) + with_words(NUMBER_WORDS, NUMBERS)
    return rows + with_words(["LINE", "PLACE"], ["0"]) + ["deal bell lay take line 3, off put bell 4, deal off a 5"]


def plainly_read(row):
    """The class and the values of the deed that this row tells."""
    words = [word.rstrip(",") for word in row.split(" ")]
    if words[0] == "deal":
        legs = [words[place:place + 4] for place in range(2, len(words), 4)]
        return Offer, {"deal": (words[1], tuple((*leg[:3], int(leg[3])) for leg in legs))}
    if words[0] in ["off", "bell"]:
        return (Off, {"name": words[1]}) if words[0] == "off" else (Bell, {})
    shelf = tuple(words[1:3])
    if words[0] == "put":
        return Put, {"shelf": shelf, "name": words[3], "place": int(words[4])}
    if words[0] == "line":
        return Line, {"shelf": shelf, "line": int(words[3])}
    return {"lay": Lay, "take": Take}[words[0]], {"shelf": shelf, "amount": int(words[3])}


class Read(unittest.TestCase):
    def test_there_and_back(self):
        for row in right_rows():
            deed = read(row)
            self.assertEqual((type(deed), vars(deed)), plainly_read(row))
            self.assertEqual(deed.row(), row)

    def test_kinds_of_what_is_read(self):
        deed = read("deal p a b w 3, b a v 10")
        self.assertEqual(deed.deal, ("p", (("a", "b", "w", 3), ("b", "a", "v", 10))))
        self.assertEqual([type(part) for part in deed.deal], [str, tuple])
        self.assertTrue(all(type(leg) is tuple and type(leg[3]) is int for leg in deed.deal[1]))
        self.assertEqual((read("put a w p 0").shelf, type(read("put a w p 0").place)), (AW, int))
        self.assertEqual((type(read("lay a w 1").shelf), type(read("lay a w 1").amount)), (tuple, int))

    def test_deeds_back_and_there(self):
        deal = one_deal("p", *["a b w 3", f"b a v {GREAT}"] * 4)
        for deed in [Lay(AW, 1), Take(("abcdefgh", "z"), GREAT), Line(AW, 0), Line(AW, GREAT), Offer(deal), Off("off"),
                     Put(AW, "p", 0), Put(AW, "p", GREAT), Bell()]:
            again = read(deed.row())
            self.assertEqual((type(again), vars(again)), (type(deed), vars(deed)))

    def test_what_it_does(self):
        self.assertEqual(values(read("lay a w 3").acted(empty())[0]), ({AW: 3}, {}, {}, {}))
        self.assertEqual(read("bell").acted(ring())[1], ["p", "q", "r"])

    def test_each_time_another_deed(self):
        for form in FORMS:
            self.assertIsNot(read(filled(form)), read(filled(form)))


class NotRows(unittest.TestCase):
    def refused(self, rows):
        for row in rows:
            with self.subTest(row[:80]):
                assert_refused(self, NoRow, read, row)

    def test_no_text(self):
        for thing in NOT_TEXTS:
            assert_refused(self, NoRow, read, thing)

    def test_no_words(self):
        self.refused(["", " ", "  ", "\n", "\t", ",", ", ", "a", "0", "3"])

    def test_the_row_of_a_plain_deed(self):
        assert_refused(self, NoRow, read, Deed().row())

    def test_blanks(self):
        for form in FORMS:
            row = filled(form)
            self.refused([" " + row, row + " ", "  " + row, row + "  "])
            self.refused([row[:place] + " " + row[place:] for place, sign in enumerate(row) if sign == " "])

    def test_tabs_and_line_ends(self):
        for form in FORMS:
            row = filled(form)
            for sign in ["\t", "\n", "\r", "\r\n", "\x0b", "\x00", "\xa0", "\u2003"]:
                self.refused([sign + row, row + sign, row + " " + sign])
                self.refused([row[:place] + sign + row[place + 1:] for place, one in enumerate(row) if one == " "])
                self.refused([row[:place] + sign + row[place:] for place, one in enumerate(row) if one == " "])

    def test_a_word_too_few(self):
        for form in FORMS:
            words = filled(form).split(" ")
            self.refused([" ".join(words[:place] + words[place + 1:]) for place in range(len(words))])
            self.refused([" ".join(words[:place]) for place in range(len(words))])

    def test_a_word_too_many(self):
        for form in FORMS:
            words = filled(form).split(" ")
            for word in ["a", "3", "0", ",", "bell"]:
                self.refused([" ".join(words[:place] + [word] + words[place:]) for place in range(len(words) + 1)])
            self.refused([" ".join(words[:place + 1] + words[place:]) for place in range(len(words))])

    def test_two_rows(self):
        for form in FORMS:
            # Behind a comma and a blank a row of four words might be a leg.
            for between in [" ", "\n", ",", "; ", ";", "\r\n"]:
                self.refused([filled(form) + between + filled(other) for other in FORMS])

    def test_an_unknown_first_word(self):
        for form in FORMS:
            rest = filled(form).split(" ")[1:]
            for word in UNKNOWN:
                self.refused([" ".join([word] + rest)])

    def test_the_first_word_of_another(self):
        for form in FORMS:
            words = filled(form).split(" ")
            for word in ["lay", "take", "line", "deal", "off", "put", "bell"]:
                if word != words[0] and not (word in ["lay", "take", "line"] and words[0] in ["lay", "take", "line"]):
                    self.refused([" ".join([word] + words[1:])])

    def test_no_names(self):
        self.refused(with_words(NAME_WORDS, NOT_NAMES))

    def test_other_letters_case(self):
        for form in FORMS:
            words = filled(form).split(" ")
            for place, word in enumerate(words):
                for other in [word.upper(), word.title()]:
                    if other != word:
                        self.refused([" ".join(words[:place] + [other] + words[place + 1:])])

    def test_no_numbers(self):
        self.refused(with_words(NUMBER_WORDS, NOT_NUMBERS))

    def test_an_amount_of_0(self):
        self.refused(with_words(["AMOUNT"], ["0"]))

    def test_legs(self):
        leg = "a b w 3"
        self.refused(["deal p " + ", ".join([leg] * count) for count in [9, 10, 100]])
        self.refused(["deal p", "deal p ", "deal", "deal ", "deal p,", "deal p, "])
        self.refused(["deal p " + leg + ",", "deal p " + leg + ", ", "deal p " + leg + ", " + leg + ", "])
        for between in [",", " ,", " , ", ",  ", ",, ", ", , ", "; ", " ", ".", ",\n", ",\t", ", and "]:
            self.refused(["deal p " + leg + between + leg, "deal p " + between.join([leg] * 8)])
        self.refused([ahead + leg for ahead in ["deal p, ", "deal p , ", "deal , ", "deal p ,", "deal "]])
        self.refused(["deal p a b w, 3", "deal p a, b w 3", "deal p a b w 3, b a w"])

    def test_a_giver_that_is_the_taker(self):
        for form in FORMS:
            for place in places_of(form, ["GIVER"]):
                self.refused([filled(form, place, GOOD["TAKER"])])
            for place in places_of(form, ["TAKER"]):
                self.refused([filled(form, place, GOOD["GIVER"])])
        self.assertEqual(read("deal w g w w 3").deal, ("w", (("g", "w", "w", 3),)))

    def test_every_sign_put_in_or_in_the_place_of_another(self):
        signs = ["\t", "\n", "\r", "A", "Z"] + [chr(number) for number in range(ord(" "), ord("~") + 1)]
        changed = 0
        for row in ["lay h w 30", "line h w 0", "deal n g t w 1, t g v 2", "off n", "put h w n 7", "bell"]:
            for place in range(len(row) + 1):
                for sign in signs:
                    for other in [row[:place] + sign + row[place:], row[:place] + sign + row[place + 1:]]:
                        try:
                            deed = read(other)
                        except NoRow:
                            changed += 1
                        else:
                            self.assertEqual(deed.row(), other)
                            self.assertEqual((type(deed), vars(deed)), plainly_read(other))
        self.assertGreater(changed, 5000)


def some_book():
    """A book with stock above and below 0, with lines, with a line and no stock, with several deals and rows."""
    book = taken(lined(laid(laid(lined(empty(), BW, 10), CW, 4), AW, 2), AV, 5), AV, 3)
    book = lined(lined(book, ("aa", "b"), 7), ("b", "aa"), GREAT)
    for deal in [one_deal("z", "a b w 2", "a b v 3"), one_deal("b", "b a w 1", "a b w 1"), one_deal("ab", "a b w 4")]:
        book = offered(book, deal)
    return moved(taken(book, BW, 9), AW, "ab", 0)


class Written(unittest.TestCase):
    def test_the_empty_book(self):
        self.assertEqual(written(empty()), [])

    def test_stock_and_lines(self):
        self.assertEqual(written(laid(laid(empty(), BW, 3), AW, GREAT)), [f"lay a w {GREAT}", "lay b w 3"])
        self.assertEqual(written(lined(laid(empty(), AW, 3), AW, 5)), ["line a w 5", "lay a w 3"])
        self.assertEqual(written(lined(empty(), AW, 5)), ["line a w 5"])
        self.assertEqual(written(taken(lined(empty(), AW, 5), AW, 5)), ["line a w 5", "take a w 5"])
        great = taken(lined(empty(), AW, GREAT), AW, GREAT)
        self.assertEqual(written(great), [f"line a w {GREAT}", f"take a w {GREAT}"])

    def test_deals_and_rows(self):
        self.assertEqual(written(queue()), [
            "lay a w 5", "deal k a b w 1", "deal m a c w 3", "deal z a b w 2",
            "put a w z 0", "put a w m 1", "put a w k 2"])
        self.assertEqual(written(ring()), [
            "deal p a b w 3", "deal q b c w 3", "deal r c a w 3", "put a w p 0", "put b w q 0", "put c w r 0"])

    def test_all_of_it(self):
        self.assertEqual(written(some_book()), [
            "line a v 5", "take a v 3", "lay a w 2", "line aa b 7", f"line b aa {GREAT}", "line b w 10", "take b w 9",
            "lay c w 4",
            "deal ab a b w 4", "deal b b a w 1, a b w 1", "deal z a b w 2, a b v 3",
            "put a v z 0", "put a w ab 0", "put a w z 1", "put a w b 2", "put b w b 0"])

    def test_the_order_of_shelves_is_that_of_tuples(self):
        book = empty()
        for shelf in [("b", "a"), ("ab", "a"), ("a", "z"), ("a", "b"), ("aa", "c"), ("a", "bb")]:
            book = laid(book, shelf, 1)
        self.assertEqual(written(book), [
            "lay a b 1", "lay a bb 1", "lay a z 1", "lay aa c 1", "lay ab a 1", "lay b a 1"])

    def test_a_row_of_more_than_ten(self):
        names = list("qwertyuiopasdf")
        book = book_of({}, *[one_deal(name, "a b w 1") for name in names])
        self.assertEqual(written(book)[14:], [f"put a w {name} {place}" for place, name in enumerate(names)])
        self.assertEqual(come_up(written(book)).rows, {AW: names})

    def test_each_row_is_a_row(self):
        for seed in range(100):
            for row in written(small_book(seed)):
                self.assertEqual(read(row).row(), row)

    def test_the_book_stays_and_the_list_is_the_askers_own(self):
        book = some_book()
        right = written(book)
        told = written(book)
        told.clear()
        self.assertEqual(written(book), right)
        self.assertEqual(values(book), values(some_book()))
        self.assertEqual([type(row) for row in right], [str] * 16)

    def test_the_same_for_equal_books(self):
        for book in [small_book(seed) for seed in range(100)] + [ring_book(seed) for seed in range(50)] + [some_book()]:
            self.assertEqual(written(Book(*turned(book))), written(book))


class ComeUp(unittest.TestCase):
    def test_no_rows(self):
        self.assertEqual(values(come_up([])), ({}, {}, {}, {}))
        self.assertIsInstance(come_up([]), Book)

    def test_rows_of_deeds(self):
        book = come_up([
            "lay a w 3", "line b w 2", "take b w 1", "deal p a b w 2", "deal q a b w 1", "put a w q 0", "off p"])
        self.assertEqual(values(book), ({AW: 3, BW: -1}, {BW: 2}, {"q": one_deal("q", "a b w 1")}, {AW: ["q"]}))

    def test_bells(self):
        rows = ["lay a w 3", "deal p a b w 2", "bell", "deal q a b w 2", "bell", "deal p b a w 1", "bell", "bell"]
        self.assertEqual(values(come_up(rows)), ({BW: 3}, {}, {}, {}))
        self.assertEqual(values(come_up(rows[:5])), ({AW: 1, BW: 2}, {}, {"q": one_deal("q", "a b w 2")}, {AW: ["q"]}))
        self.assertEqual(values(come_up(["bell", "bell"])), ({}, {}, {}, {}))

    def test_of_what_was_written(self):
        for book in [empty(), queue(), ring(), chain(), some_book(), moved(queue(), AW, "k", 0),
                     moved(queue(), AW, "z", 9), called_off(queue(), "z"), lined(laid(empty(), AW, 3), AW, 5),
                     taken(lined(empty(), AW, GREAT), AW, GREAT)]:
            self.assertEqual(values(come_up(written(book))), values(book))
            self.assertEqual(written(come_up(written(book))), written(book))

    def test_of_what_was_written_of_many_books(self):
        out_of_turn = 0
        for book in [small_book(seed) for seed in range(300)] + [ring_book(seed) for seed in range(100)]:
            again = come_up(written(book))
            self.assertEqual(values(again), values(book))
            self.assertEqual(faults(again), [])
            out_of_turn += any(row != sorted(row) for row in book.rows.values())
        self.assertGreater(out_of_turn, 100)

    def test_a_row_that_is_none(self):
        good = ["lay a w 3", "deal p a b w 2", "bell"]
        for thing in NOT_TEXTS + ["", " ", "back", "most", "has a w", "lay a w 0", "lay a w 3 ", "Bell"]:
            for place in range(len(good) + 1):
                assert_refused(self, NoRow, come_up, good[:place] + [thing] + good[place:])
            assert_refused(self, NoRow, come_up, [thing])

    def test_a_deed_that_is_refused(self):
        good = ["lay a w 3", "deal p a b w 2"]
        for refusal, row in [(TooLittle, "take a w 4"), (Twice, "deal p b a w 1"), (NotWaiting, "off q"),
                             (NotWaiting, "put b w p 0")]:
            assert_refused(self, refusal, come_up, good + [row])
            assert_refused(self, refusal, come_up, good + [row, "bell"])
        assert_refused(self, NotWaiting, come_up, good + ["bell", "off p"])
        assert_refused(self, TooLittle, come_up, ["line a w 3", "take a w 2", "line a w 1"])

    def test_the_first_refusal_is_told(self):
        wrong = [(TooLittle, "take a w 4"), (NotWaiting, "off q"), (NoRow, "off"), (NoRow, None), (NoRow, ["bell"])]
        for refusal, row in wrong:
            for other, behind in wrong:
                assert_refused(self, refusal, come_up, ["lay a w 3", row, behind])

    def test_the_list_stays(self):
        for rows in [["lay a w 3", "bell"], ["lay a w 3", "off p", "bell"], [None]]:
            kept = list(rows)
            try:
                come_up(rows)
            except ValueError:
                pass
            self.assertEqual(rows, kept)

    def test_as_the_plainest_hall_does(self):
        for seed in range(150):
            chance = random.Random(seed)
            plain, rows = PlainHall(), []
            while len(rows) < 12:
                row = drawn_row(chance, plain.book)
                if row != "back" and plain.say(row).startswith("done"):
                    rows.append(row)
            self.assertEqual(values(come_up(rows)), values(plain.book))

    def test_three_hundred_rows(self):
        rows = ["lay a w 1", "deal p a b w 1", "bell"] * 100
        self.assertEqual(values(come_up(rows)), ({BW: 100}, {}, {}, {}))

    def test_a_hundred_deals_of_eight_legs(self):
        chance = random.Random(7)
        book = empty()
        for name in [one + other for one in "abcdefghij" for other in "abcdefghij"]:
            legs = [" ".join(chance.sample(["r", "s", "t", "u"], 2) + ["w", str(GREAT)]) for turn in range(8)]
            book = offered(book, one_deal(name, *legs))
        for turn in range(50):
            shelf = chance.choice(sorted(book.rows))
            book = moved(book, shelf, chance.choice(book.rows[shelf]), chance.randint(0, 99))
        self.assertEqual(values(come_up(written(book))), values(book))


if __name__ == "__main__":
    unittest.main()
