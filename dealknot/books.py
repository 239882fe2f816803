"""Books: stock, lines, waiting deals and their rows, and what is laid, taken, offered and called off in them."""

from dealknot.deals import is_amount, is_line, is_shelf
from dealknot.errors import NoAmount, NoName, NotWaiting, TooLittle, Twice
from dealknot.rows import copied, entered, left, put_to
from dealknot.sheets import at, plus, sheet_of


class Book:
    def __init__(self, stock, lines, deals, rows):
        # Copies, so that books made of one another share nothing that could be changed.
        self.stock = dict(stock)
        self.lines = dict(lines)
        self.deals = dict(deals)
        self.rows = copied(rows)


def empty():
    return Book({}, {}, {}, {})


def room(book, shelf):
    return at(book.stock, shelf) + at(book.lines, shelf)


def check_shelf(shelf):
    if not is_shelf(shelf):
        raise NoName("a shelf is a tuple (house, ware) of two names")


def check_amount(amount):
    if not is_amount(amount):
        raise NoAmount("an amount is a whole number from 1 to 10 ** 60 - 1")


def check_line(line):
    if not is_line(line):
        raise NoAmount("a line is a whole number from 0 to 10 ** 60 - 1")


def check_waiting(book, name):
    if name not in book.deals:
        raise NotWaiting(f"no deal {name} waits")


def with_more(book, shelf, stock, line):
    told = Book(plus(book.stock, sheet_of([(shelf, stock)])), plus(book.lines, sheet_of([(shelf, line)])),
                book.deals, book.rows)
    if room(told, shelf) < 0:
        raise TooLittle("the stock and the line of the shelf would come to less than 0")
    return told


def laid(book, shelf, amount):
    check_shelf(shelf)
    check_amount(amount)
    return with_more(book, shelf, amount, 0)


def taken(book, shelf, amount):
    check_shelf(shelf)
    check_amount(amount)
    return with_more(book, shelf, -amount, 0)


def lined(book, shelf, line):
    check_shelf(shelf)
    check_line(line)
    return with_more(book, shelf, 0, line - at(book.lines, shelf))


def offered(book, deal):
    name = deal[0]
    if name in book.deals:
        raise Twice(f"a deal {name} waits")
    deals = dict(book.deals)
    deals[name] = deal
    return Book(book.stock, book.lines, deals, entered(book.rows, deal))


def without(book, names):
    deals = dict([(name, deal) for name, deal in book.deals.items() if name not in names])
    return Book(book.stock, book.lines, deals, left(book.rows, names))


def called_off(book, name):
    check_waiting(book, name)
    return without(book, [name])


def moved(book, shelf, name, place):
    return Book(book.stock, book.lines, book.deals, put_to(book.rows, shelf, name, place))
