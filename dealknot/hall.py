"""The hall: a book to which deeds are done as they are told in rows, and of which questions are asked."""

from dealknot.books import empty
from dealknot.deeds import spaced
from dealknot.errors import NoBack
from dealknot.knots import plan
from dealknot.reasons import reason
from dealknot.sheets import at
from dealknot.strikes import most
from dealknot.texts import check_row, name_in, read, shelf_in, words_of
from dealknot.wants import spare, want


def listed(parts, between):
    return between.join(parts) if parts else "none"


def most_told(book, words):
    check_row(len(words) == 0)
    return listed(most(book)[0], " ")


def plan_told(book, words):
    check_row(len(words) == 0)
    return listed([spaced(names) for names, papers in plan(book)], "; ")


def strike_told(strike):
    name, shelf, other = strike
    if other is None:
        return spaced([name] + list(shelf) + ["short"])
    return spaced([name] + list(shelf) + ["behind", other])


def why_told(book, words):
    check_row(len(words) == 1)
    paper = reason(book, name_in(words[0]))
    if paper is None:
        return "goes"
    return "; ".join([strike_told(strike) for strike in paper])


def want_told(book, words):
    check_row(len(words) == 3)
    amount = want(book, name_in(words[0]), shelf_in(words[1], words[2]))[0]
    return "never" if amount is None else str(amount)


def spare_told(book, words):
    check_row(len(words) == 2)
    return str(spare(book, shelf_in(words[0], words[1])))


def has_told(book, words):
    check_row(len(words) == 2)
    shelf = shelf_in(words[0], words[1])
    return spaced([at(book.stock, shelf), at(book.lines, shelf)])


def row_told(book, words):
    check_row(len(words) == 2)
    return listed(book.rows.get(shelf_in(words[0], words[1]), []), " ")


ANSWERS = {"most": most_told, "plan": plan_told, "why": why_told, "want": want_told, "spare": spare_told,
           "has": has_told, "row": row_told}


class Hall:
    def __init__(self):
        self.book = empty()
        # Of each deed that stands: the book ahead of it, and the deed.
        self.steps = []

    def say(self, row):
        words = words_of(row)
        if words[0] in ANSWERS:
            return ANSWERS[words[0]](self.book, words[1:])
        if words == ["back"]:
            return self.go_back()
        return self.carry_out(read(row))

    def carry_out(self, deed):
        # What is refused is refused here, ahead of any change.
        book, names = deed.acted(self.book)
        self.steps.append((self.book, deed))
        self.book = book
        return spaced(["done"] + names)

    def go_back(self):
        if not self.steps:
            raise NoBack("no deed stands that could be gone back behind")
        self.book = self.steps.pop()[0]
        return "back"

    def told(self):
        return [deed.row() for book, deed in self.steps]
