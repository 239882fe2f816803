"""Histories: deeds done one behind the other, and agendas: what deeds of some days foretell, with a bell each day."""

from dealknot.deeds import Bell, Lay, Offer
from dealknot.errors import NotForetold


def run(book, deeds):
    bells = []
    for deed in deeds:
        book, names = deed.acted(book)
        if isinstance(deed, Bell):
            bells.append(names)
    return (book, bells)


def check_agenda(agenda):
    for day, deed in agenda:
        if not isinstance(deed, (Lay, Offer)):
            raise NotForetold("on an agenda stand layings-in and offers alone")


def deeds_by_day(agenda):
    told = {}
    for day, deed in agenda:
        told.setdefault(day, []).append(deed)
    return told


def foretold(book, agenda):
    check_agenda(agenda)
    deeds = deeds_by_day(agenda)
    told = []
    for day in sorted(deeds):
        book, bells = run(book, deeds[day] + [Bell()])
        told.append((day, bells[0]))
    return told


def first_day(book, agenda, name):
    for day, names in foretold(book, agenda):
        if name in names:
            return day
    return None
