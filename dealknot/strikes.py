"""Strikes: what shuts waiting deals out of all that goes, papers of strikes, and the most that a paper leaves."""

from dealknot.deals import brings, gives
from dealknot.sheets import at, summed


def needs_of_row(shelf, row, given):
    needs = {}
    so_far = 0
    for name in row:
        so_far += at(given[name], shelf)
        needs[name] = so_far
    return needs


def needs_of(book):
    given = dict([(name, gives(deal)) for name, deal in book.deals.items()])
    return dict([(shelf, needs_of_row(shelf, row, given)) for shelf, row in book.rows.items()])


class Slate:
    # The needs don't hang on what is struck, and of the supply a strike takes only what its deal brings:
    # so all is reckoned once, and a strike costs little.
    def __init__(self, book, struck):
        self.rows = book.rows
        self.shelves = sorted(book.rows)
        self.needs = needs_of(book)
        self.brought = dict([(name, brings(deal)) for name, deal in book.deals.items()])
        self.supply = summed([book.stock, book.lines] + list(self.brought.values()))
        self.struck = {}
        for name in sorted(set(struck)):
            self.strike(name)

    def strike(self, name):
        self.struck[name] = True
        for shelf, amount in self.brought[name].items():
            self.supply[shelf] = at(self.supply, shelf) - amount

    def falls_short(self, name, shelf):
        return self.needs[shelf][name] > at(self.supply, shelf)

    def unstruck(self):
        return [name for name in sorted(self.brought) if name not in self.struck]


def slate_among(book, among):
    if among is None:
        return Slate(book, [])
    return Slate(book, sorted(set(book.deals) - set(among)))


def holds(slate, strike):
    name, shelf, other = strike
    row = slate.rows.get(shelf, [])
    if name not in row or name in slate.struck:
        return False
    if other is None:
        return slate.falls_short(name, shelf)
    return other in slate.struck and other in row[:row.index(name)]


def strikes_in_row(slate, shelf):
    found = []
    ahead = None
    for name in slate.rows[shelf]:
        if name in slate.struck:
            ahead = name
        elif ahead is not None:
            found.append((name, shelf, ahead))
        elif slate.falls_short(name, shelf):
            found.append((name, shelf, None))
    return found


def can_strike(book, struck):
    slate = Slate(book, struck)
    names = []
    for shelf in slate.shelves:
        names.extend([strike[0] for strike in strikes_in_row(slate, shelf)])
    return sorted(set(names))


def strike_each_row(slate):
    made = []
    for shelf in slate.shelves:
        # What holds in a row holds on when others are struck, so all of it can be struck one by one.
        for strike in strikes_in_row(slate, shelf):
            slate.strike(strike[0])
            made.append(strike)
    return made


def most(book, among=None):
    slate = slate_among(book, among)
    paper = []
    made = strike_each_row(slate)
    # A strike may let others hold in rows that were walked already.
    while made:
        paper.extend(made)
        made = strike_each_row(slate)
    return (slate.unstruck(), paper)


def walked(book, paper, among=None):
    slate = slate_among(book, among)
    for strike in paper:
        if not holds(slate, strike):
            return None
        slate.strike(strike[0])
    return slate.unstruck()
