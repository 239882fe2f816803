"""Deeds: what can be done to a book, each as an object with the row of text that tells it."""

from dealknot.books import called_off, laid, lined, moved, offered, taken
from dealknot.going import done
from dealknot.strikes import most


def spaced(words):
    return " ".join([str(word) for word in words])


class Deed:
    def acted(self, book):
        return (book, [])

    def row(self):
        return ""


class Lay(Deed):
    def __init__(self, shelf, amount):
        self.shelf = shelf
        self.amount = amount

    def acted(self, book):
        return (laid(book, self.shelf, self.amount), [])

    def row(self):
        return spaced(["lay"] + list(self.shelf) + [self.amount])


# Nothing but Deed stands above a class, so Take has of its own what Lay has too.
class Take(Deed):
    def __init__(self, shelf, amount):
        self.shelf = shelf
        self.amount = amount

    def acted(self, book):
        return (taken(book, self.shelf, self.amount), [])

    def row(self):
        return spaced(["take"] + list(self.shelf) + [self.amount])


class Line(Deed):
    def __init__(self, shelf, line):
        self.shelf = shelf
        self.line = line

    def acted(self, book):
        return (lined(book, self.shelf, self.line), [])

    def row(self):
        return spaced(["line"] + list(self.shelf) + [self.line])


class Offer(Deed):
    def __init__(self, deal):
        self.deal = deal

    def acted(self, book):
        return (offered(book, self.deal), [])

    def row(self):
        name, legs = self.deal
        return spaced(["deal", name, ", ".join([spaced(leg) for leg in legs])])


class Off(Deed):
    def __init__(self, name):
        self.name = name

    def acted(self, book):
        return (called_off(book, self.name), [])

    def row(self):
        return spaced(["off", self.name])


class Put(Deed):
    def __init__(self, shelf, name, place):
        self.shelf = shelf
        self.name = name
        self.place = place

    def acted(self, book):
        return (moved(book, self.shelf, self.name, self.place), [])

    def row(self):
        return spaced(["put"] + list(self.shelf) + [self.name, self.place])


class Bell(Deed):
    def acted(self, book):
        names = most(book)[0]
        return (done(book, names), names)

    def row(self):
        return "bell"
