"""What several tests of rows of text and halls share: halls, drawn rows, and a hall told in the plainest way."""

import copy
import random
import types

from dealknot.deeds import Bell, Lay
from dealknot.errors import HallError
from dealknot.hall import Hall
from small_books import greatest, legs_sum, room_of, shelves_of, some_legs

HOUSES, WARES, NAMES = "abc", "vw", ["p", "q", "r", "s", "none"]


class Anything:
    """A thing that is no text, and of which nothing may be asked."""

    def refuse(self, *things):
        raise AssertionError("this is not asked")

    __eq__ = __ne__ = __hash__ = __len__ = __bool__ = __iter__ = __getitem__ = __str__ = refuse


NOT_TEXTS = [None, True, False, 0, 3, 1.5, b"bell", ["bell"], ("bell",), {"bell": 1}, {"bell"}, [], (), {}, object(),
             str, Bell(), Lay(("a", "w"), 3), Anything(), ["lay", "a", "w", "3"], ["back"], range(3), print]


def hall_of(*rows):
    """The hall to which these rows were said."""
    hall = Hall()
    for row in rows:
        hall.say(row)
    return hall


def deal_row(name, legs):
    return "deal " + name + " " + ", ".join(" ".join(str(part) for part in leg) for leg in legs)


def drawn_row(chance, book):
    """A row of a deed, or back; of every kind some are refused."""
    house, ware, name = chance.choice(HOUSES), chance.choice(WARES), chance.choice(NAMES)
    kind = chance.choice(["lay"] * 6 + ["take"] * 2 + ["line"] * 3 + ["off"] + ["put"] * 3 + ["deal"] * 12 +
                         ["bell"] * 3 + ["back"] * 3)
    if kind in ["take", "line"] and book.lines and chance.randint(0, 2):
        house, ware = chance.choice(sorted(book.lines))
    if kind in ["lay", "take"]:
        return f"{kind} {house} {ware} {chance.randint(1, 5)}"
    if kind == "line":
        return f"line {house} {ware} {chance.randint(0, 3)}"
    if kind == "deal":
        return deal_row(name, some_legs(chance, HOUSES, WARES))
    if kind == "off":
        return f"off {name}"
    if kind == "put":
        if book.rows and chance.randint(0, 4):
            house, ware = chance.choice(sorted(book.rows))
            name = chance.choice(book.rows[(house, ware)])
        return f"put {house} {ware} {name} {chance.randint(0, 3)}"
    return kind


def answer_of(hall, row):
    """The answer of a hall, or the name of its refusal."""
    try:
        return hall.say(row)
    except HallError as refusal:
        return refusal.__class__.__name__


def drawn_hall(seed, count):
    """A hall to which so many drawn rows were said, some of them refused."""
    chance = random.Random(seed)
    hall = Hall()
    for turn in range(count):
        answer_of(hall, drawn_row(chance, hall.book))
    return hall


class PlainHall:
    """A hall of small books, for the rows of deeds and for back: told are answers, or the names of refusals."""

    def __init__(self):
        self.book = types.SimpleNamespace(stock={}, lines={}, deals={}, rows={})
        self.elder = []

    def say(self, row):
        if row == "back":
            if not self.elder:
                return "NoBack"
            self.book = self.elder.pop()
            return "back"
        ahead = copy.deepcopy(self.book)
        words = row.split(" ")
        answer = getattr(self, words[0])(*words[1:])
        if answer.startswith("done"):
            self.elder.append(ahead)
        else:
            self.book = ahead
        return answer

    def if_room(self, shelf):
        for sheet in [self.book.stock, self.book.lines]:
            if sheet.get(shelf) == 0:
                del sheet[shelf]
        return "done" if room_of(self.book, shelf) >= 0 else "TooLittle"

    def lay(self, house, ware, amount):
        self.book.stock[(house, ware)] = self.book.stock.get((house, ware), 0) + int(amount)
        return self.if_room((house, ware))

    def take(self, house, ware, amount):
        return self.lay(house, ware, "-" + amount)

    def line(self, house, ware, line):
        self.book.lines[(house, ware)] = int(line)
        return self.if_room((house, ware))

    def deal(self, name, *words):
        if name in self.book.deals:
            return "Twice"
        legs = tuple((*words[place:place + 3], int(words[place + 3].rstrip(","))) for place in range(0, len(words), 4))
        self.book.deals[name] = (name, legs)
        for shelf in {(leg[0], leg[2]) for leg in legs}:
            self.book.rows[shelf] = self.book.rows.get(shelf, []) + [name]
        return "done"

    def leave(self, names):
        for name in names:
            del self.book.deals[name]
        rows = {shelf: [name for name in row if name not in names] for shelf, row in self.book.rows.items()}
        self.book.rows = {shelf: row for shelf, row in rows.items() if row}

    def off(self, name):
        if name not in self.book.deals:
            return "NotWaiting"
        self.leave([name])
        return "done"

    def put(self, house, ware, name, place):
        row = self.book.rows.get((house, ware), [])
        if name not in row:
            return "NotWaiting"
        row.remove(name)
        row.insert(int(place), name)
        return "done"

    def bell(self):
        names = greatest(self.book, list(self.book.deals))
        stock = {}
        for shelf in shelves_of(self.book):
            stock[shelf] = self.book.stock.get(shelf, 0)
            stock[shelf] += legs_sum(self.book, names, shelf, 1) - legs_sum(self.book, names, shelf, 0)
        self.book.stock = {shelf: number for shelf, number in stock.items() if number}
        self.leave(names)
        return " ".join(["done"] + names)
