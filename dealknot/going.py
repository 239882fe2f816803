"""What goes: the names of waiting deals that can be done all at once, what they lack, and the book behind them."""

from dealknot.books import Book, check_waiting, without
from dealknot.deals import change
from dealknot.errors import NotNow
from dealknot.rows import broken
from dealknot.sheets import summed


def changes(book, names):
    return [change(book.deals[name]) for name in names]


def lacks(book, names):
    rooms = summed([book.stock, book.lines] + changes(book, names))
    return dict([(shelf, -rooms[shelf]) for shelf in sorted(rooms) if rooms[shelf] < 0])


def goes(book, names):
    return broken(book.rows, names) is None and lacks(book, names) == {}


def done(book, names):
    for name in names:
        check_waiting(book, name)
    if not goes(book, names):
        raise NotNow("these names can't be done at once")
    rest = without(book, names)
    return Book(summed([book.stock] + changes(book, names)), rest.lines, rest.deals, rest.rows)
