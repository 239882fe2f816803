"""What several tests share: books to try, and the document's words on them, told once more in the plainest way."""

import copy
import itertools
import random

from dealknot.books import called_off, empty, laid, lined, moved, offered, taken
from dealknot.deals import deal_of
from dealknot.errors import HallError

GREAT = 10 ** 60 - 1

NOT_SHELVES = [
    ["a", "w"], (), ("a",), ("a", "w", "w"), "aw", "", "a", {"a": "w"}, {"a", "w"}, None, True, False, 0, 2, 1.5, b"aw",
    object(), tuple, ("", "w"), ("a", ""), ("A", "w"), ("a", "W"), ("abcdefghi", "w"), ("a", "abcdefghi"), ("a\n", "w"),
    ("a", " w"), ("a", None), (None, "w"), (1, 2), (["a"], "w"), ("a", ["w"]), (("a", "w"),), (("a", "w"), "w"), [], {}]


def one_deal(name, *legs):
    """A deal of legs written as texts: "a b w 3" is a leg from a to b of 3 of the ware w."""
    words = [leg.split() for leg in legs]
    return deal_of(name, [(giver, taker, ware, int(amount)) for giver, taker, ware, amount in words])


def book_of(stock, *deals):
    """The book with this stock (a dict) in which these deals were offered one behind the other."""
    book = empty()
    for shelf, amount in stock.items():
        book = laid(book, shelf, amount)
    for deal in deals:
        book = offered(book, deal)
    return book


def ring():
    """Three deals that bring one another what they give, of nothing that lies anywhere."""
    return book_of({}, one_deal("p", "a b w 3"), one_deal("q", "b c w 3"), one_deal("r", "c a w 3"))


def queue():
    """Three deals in the row of one shelf, where 5 lie."""
    return book_of({("a", "w"): 5}, one_deal("z", "a b w 2"), one_deal("m", "a c w 3"), one_deal("k", "a b w 1"))


def chain():
    """No deal goes: s lacks, and the others hang on what it brings, one on the other, or stand behind."""
    return book_of({}, one_deal("p", "a x w 1"), one_deal("q", "b a w 1"), one_deal("r", "c b w 1"),
                   one_deal("s", "d c w 1"), one_deal("t", "a x w 1"))


def values(book):
    """A copy of a book's four values, to be compared with other ones."""
    return copy.deepcopy((book.stock, book.lines, book.deals, book.rows))


def assert_refused(test, refusal, call, *things):
    with test.assertRaises(HallError) as caught:
        call(*things)
    test.assertIs(caught.exception.__class__, refusal)


def faults(book):
    """What [8] and [10] say of every book, and this one does not keep to."""
    told = []
    for sheet in [book.stock, book.lines]:
        if 0 in sheet.values():
            told.append("a 0 in a sheet")
    if any(line < 0 for line in book.lines.values()):
        told.append("a line below 0")
    for shelf in set(book.stock) | set(book.lines):
        if book.stock.get(shelf, 0) + book.lines.get(shelf, 0) < 0:
            told.append("a room below 0")
    if any(name != deal[0] for name, deal in book.deals.items()):
        told.append("a deal under another name")
    standing = {(leg[0], leg[2], name) for name, deal in book.deals.items() for leg in deal[1]}
    rows = [(shelf[0], shelf[1], name) for shelf, row in book.rows.items() for name in row]
    if len(rows) != len(set(rows)) or set(rows) != standing or [] in book.rows.values():
        told.append("rows")
    return told


def some_legs(chance, houses, wares):
    legs = []
    for turn in range(chance.choice([1, 1, 2, 2, 3])):
        giver, taker = chance.sample(houses, 2)
        legs.append((giver, taker, chance.choice(wares), chance.randint(1, 4)))
    return legs


def with_deed(chance, book, houses, wares, names):
    shelf = (chance.choice(houses), chance.choice(wares))
    deed = chance.choice(["lay"] * 5 + ["take", "line", "line", "off"] + ["put"] * 3 + ["offer"] * 8)
    if deed == "lay":
        return laid(book, shelf, chance.randint(1, 6))
    if deed == "take":
        return taken(book, shelf, chance.randint(1, 3))
    if deed == "line":
        return lined(book, shelf, chance.randint(0, 4))
    if deed == "off":
        return called_off(book, chance.choice(names))
    if deed == "put":
        shelf = chance.choice(sorted(book.rows) or [shelf])
        return moved(book, shelf, chance.choice(book.rows.get(shelf, names)), chance.randint(0, 4))
    return offered(book, deal_of(chance.choice(names), some_legs(chance, houses, wares)))


def small_book(seed):
    """A book of at most six waiting deals that some deeds made, those that were refused left out."""
    chance = random.Random(seed)
    houses, wares, names = "abcd"[:chance.choice([2, 3, 3, 4])], "vw"[:chance.choice([1, 2, 2])], "pqrstu"
    book = empty()
    for turn in range(chance.choice([0, 2, 5, 8, 12, 16, 20])):
        try:
            book = with_deed(chance, book, houses, wares, names)
        except HallError:
            pass
    return book


def ring_book(seed):
    """A book of some rings, in which the amounts mostly fit, with little on the shelves and rows in any order."""
    chance = random.Random(seed)
    book, names = empty(), chance.sample("pqrstuv", 7)
    while len(names) > 1:
        size = chance.randint(2, min(4, len(names)))
        houses, ware, amount = chance.sample("abcde", size), chance.choice("vw"), chance.randint(1, 3)
        for place, house in enumerate(houses):
            legs = [(house, houses[place - 1], ware, amount + chance.choice([0] * 14 + [1, -1 if amount > 1 else 0]))]
            if chance.randint(0, 3) == 0:
                legs.extend(some_legs(chance, "abcde", "vw")[:1])
            book = offered(book, deal_of(names.pop(), legs))
        if chance.randint(0, 1) == 0:
            book = laid(book, (chance.choice("abcde"), chance.choice("vw")), chance.randint(1, 5))
    for shelf in sorted(book.rows):
        if chance.randint(0, 2) == 0:
            book = moved(book, shelf, chance.choice(book.rows[shelf]), chance.randint(0, 2))
    return book


def turned(book):
    """The four values of a book, each dict walked the other way round."""
    return [dict(reversed(list(value.items()))) for value in (book.stock, book.lines, book.deals, book.rows)]


def sets_of(names):
    """Every set of these names, as lists."""
    return [list(some) for count in range(len(names) + 1) for some in itertools.combinations(sorted(names), count)]


def legs_sum(book, names, shelf, side):
    """What the legs of these names give from the shelf (side 0), or bring to it (side 1)."""
    return sum(leg[3] for name in names for leg in book.deals[name][1] if (leg[side], leg[2]) == shelf)


def room_of(book, shelf):
    return book.stock.get(shelf, 0) + book.lines.get(shelf, 0)


def shelves_of(book):
    named = {(leg[side], leg[2]) for deal in book.deals.values() for leg in deal[1] for side in [0, 1]}
    return sorted(named | set(book.stock) | set(book.lines))


def rests_of(book, names):
    """The room of each shelf behind these names."""
    rests = {}
    for shelf in shelves_of(book):
        rests[shelf] = room_of(book, shelf) + legs_sum(book, names, shelf, 1) - legs_sum(book, names, shelf, 0)
    return rests


def keeps_rows(rows, names):
    return all(row[place - 1] in names or row[place] not in names for row in rows.values() for place in
               range(1, len(row)))


def plainly_goes(book, names):
    return keeps_rows(book.rows, names) and all(rest >= 0 for rest in rests_of(book, names).values())


def greatest(book, among):
    """The set of these names that goes and holds all others, found by trying every set."""
    going = [names for names in sets_of(among) if plainly_goes(book, names)]
    last = going[-1]
    assert all(set(names) <= set(last) for names in going)
    return last


def plainly_holds(book, struck, strike):
    name, shelf, other = strike
    row = book.rows.get(shelf, [])
    if name in struck or name not in row:
        return False
    place = row.index(name)
    if other is not None:
        return other in struck and other in row[:place]
    bringers = [one for one in book.deals if one not in struck]
    return legs_sum(book, row[:place + 1], shelf, 0) > room_of(book, shelf) + legs_sum(book, bringers, shelf, 1)


def plainly_left(book, paper, among=None):
    """What a paper leaves, or None where it is none."""
    struck = [name for name in book.deals if among is not None and name not in among]
    for strike in paper:
        if not plainly_holds(book, struck, strike):
            return None
        struck.append(strike[0])
    return [name for name in sorted(book.deals) if name not in struck]


def all_strikes(book):
    """Every tuple that may be a strike of this book, and some that never are."""
    shelves = sorted(book.rows) + [("no", "no")]
    names = sorted(book.deals) + ["no"]
    return [(name, shelf, other) for name in names for shelf in shelves for other in names + [None]]
