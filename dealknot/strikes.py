"""Strikes: what shuts waiting deals out of all that goes, papers of strikes, and the most that a paper leaves."""

from dealknot.deals import brings, gives
from dealknot.sheets import at, summed


def needs_of_row(shelf, row, given):
    needs = {}
    so_far = 0
    for name in row:
        so_far += at(given[name], shelf)
        needs[name] = so_far
    return needs


class Ground:
    # What of a book does not hang on what is struck: reckoned once, however many slates are made of it.
    def __init__(self, book):
        given = dict([(name, gives(deal)) for name, deal in book.deals.items()])
        self.rows = book.rows
        self.shelves = sorted(book.rows)
        self.needs = dict([(shelf, needs_of_row(shelf, row, given)) for shelf, row in book.rows.items()])
        self.brought = dict([(name, brings(deal)) for name, deal in book.deals.items()])
        self.supply = summed([book.stock, book.lines] + list(self.brought.values()))
        self.touched = dict([(name, sorted(set(given[name]) | set(self.brought[name]))) for name in book.deals])

    def touched_by(self, names):
        # In the rows of these shelves alone strikes may hold that did not hold ahead of the striking of the names.
        shelves = []
        for name in names:
            shelves.extend(self.touched[name])
        return sorted(set(shelves) & set(self.rows))


class Slate:
    # Of the supply a strike takes only what its deal brings, so a strike costs little.
    def __init__(self, ground, struck):
        self.ground = ground
        self.supply = dict(ground.supply)
        self.struck = {}
        for name in sorted(set(struck)):
            self.strike(name)

    def strike(self, name):
        self.struck[name] = True
        for shelf, amount in self.ground.brought[name].items():
            self.shift_supply(shelf, -amount)

    def shift_supply(self, shelf, amount):
        self.supply[shelf] = at(self.supply, shelf) + amount

    def falls_short(self, name, shelf):
        return self.ground.needs[shelf][name] > at(self.supply, shelf)

    def unstruck(self):
        return [name for name in sorted(self.ground.brought) if name not in self.struck]


def slate_among(ground, among):
    if among is None:
        return Slate(ground, [])
    return Slate(ground, sorted(set(ground.brought) - set(among)))


def holds(slate, strike):
    name, shelf, other = strike
    row = slate.ground.rows.get(shelf, [])
    if name not in row or name in slate.struck:
        return False
    if other is None:
        return slate.falls_short(name, shelf)
    return other in slate.struck and other in row[:row.index(name)]


def strikes_in_row(slate, shelf):
    found = []
    ahead = None
    for name in slate.ground.rows[shelf]:
        if name in slate.struck:
            ahead = name
        elif ahead is not None:
            found.append((name, shelf, ahead))
        elif slate.falls_short(name, shelf):
            found.append((name, shelf, None))
    return found


def can_strike(book, struck):
    slate = Slate(Ground(book), struck)
    names = []
    for shelf in slate.ground.shelves:
        names.extend([strike[0] for strike in strikes_in_row(slate, shelf)])
    return sorted(set(names))


def strike_rows(slate, shelves):
    made = []
    for shelf in shelves:
        # What holds in a row holds on when others are struck, so all of it can be struck one by one.
        for strike in strikes_in_row(slate, shelf):
            slate.strike(strike[0])
            made.append(strike)
    return made


def strike_out(slate, shelves):
    paper = []
    made = strike_rows(slate, shelves)
    # A strike may let others hold in rows that were walked already.
    while made:
        paper.extend(made)
        made = strike_rows(slate, slate.ground.touched_by([strike[0] for strike in made]))
    return paper


def most_of(ground, among):
    slate = slate_among(ground, among)
    paper = strike_out(slate, ground.shelves)
    return (slate.unstruck(), paper)


def most(book, among=None):
    return most_of(Ground(book), among)


def strike_along(slate, paper):
    for strike in paper:
        if not holds(slate, strike):
            return False
        slate.strike(strike[0])
    return True


def walked(book, paper, among=None):
    slate = slate_among(Ground(book), among)
    if not strike_along(slate, paper):
        return None
    return slate.unstruck()
