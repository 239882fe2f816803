"""Rows of text: deeds read from them, books written as them, and the books that they come up to."""

from dealknot.books import empty
from dealknot.deals import are_legs, deal_of, is_amount, is_name, is_shelf
from dealknot.deeds import Bell, Lay, Line, Off, Offer, Put, Take
from dealknot.errors import NoRow
from dealknot.sheets import at

FIGURES = "0123456789"
MOST_FIGURES = 60


def check_row(right):
    # What was handed in is not shown in the words: of anything, not all can be written as a text.
    if not right:
        raise NoRow("this is no row that is told here")


def words_of(row):
    check_row(isinstance(row, str))
    return row.split(" ")


def name_in(word):
    check_row(is_name(word))
    return word


def shelf_in(house, ware):
    check_row(is_shelf((house, ware)))
    return (house, ware)


def number_in(word):
    # Python's own int takes more than this: signs, ends of lines, figures of other letters.
    check_row(1 <= len(word) <= MOST_FIGURES and all([sign in FIGURES for sign in word]))
    check_row(word == "0" or not word.startswith("0"))
    return int(word)


def amount_in(word):
    amount = number_in(word)
    check_row(is_amount(amount))
    return amount


def leg_in(text):
    words = text.split(" ")
    check_row(len(words) == 4)
    return (words[0], words[1], words[2], number_in(words[3]))


def lay_in(words):
    check_row(len(words) == 3)
    return Lay(shelf_in(words[0], words[1]), amount_in(words[2]))


def take_in(words):
    check_row(len(words) == 3)
    return Take(shelf_in(words[0], words[1]), amount_in(words[2]))


def line_in(words):
    check_row(len(words) == 3)
    return Line(shelf_in(words[0], words[1]), number_in(words[2]))


def offer_in(words):
    # The legs come first: of no words no leg is read, so behind them there is a word for the name.
    legs = [leg_in(text) for text in " ".join(words[1:]).split(", ")]
    check_row(are_legs(legs))
    return Offer(deal_of(name_in(words[0]), legs))


def off_in(words):
    check_row(len(words) == 1)
    return Off(name_in(words[0]))


def put_in(words):
    check_row(len(words) == 4)
    return Put(shelf_in(words[0], words[1]), name_in(words[2]), number_in(words[3]))


def bell_in(words):
    check_row(len(words) == 0)
    return Bell()


READERS = {"lay": lay_in, "take": take_in, "line": line_in, "deal": offer_in, "off": off_in, "put": put_in,
           "bell": bell_in}


def read(row):
    words = words_of(row)
    check_row(words[0] in READERS)
    return READERS[words[0]](words[1:])


def deeds_of_shelf(book, shelf):
    line = at(book.lines, shelf)
    stock = at(book.stock, shelf)
    deeds = []
    # The line comes first: without it a stock below 0 can't be taken.
    if line != 0:
        deeds.append(Line(shelf, line))
    if stock > 0:
        deeds.append(Lay(shelf, stock))
    if stock < 0:
        deeds.append(Take(shelf, -stock))
    return deeds


def deeds_of(book):
    deeds = []
    for shelf in sorted(set(book.stock) | set(book.lines)):
        deeds.extend(deeds_of_shelf(book, shelf))
    deeds.extend([Offer(book.deals[name]) for name in sorted(book.deals)])
    for shelf in sorted(book.rows):
        deeds.extend([Put(shelf, name, place) for place, name in enumerate(book.rows[shelf])])
    return deeds


def written(book):
    return [deed.row() for deed in deeds_of(book)]


def come_up(rows):
    book = empty()
    for row in rows:
        book = read(row).acted(book)[0]
    return book
