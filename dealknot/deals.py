"""Names, amounts, shelves and legs; deals made of them, and what a deal gives, brings and changes."""

from dealknot.errors import NoLeg, NoName
from dealknot.sheets import minus, sheet_of

LETTERS = "abcdefghijklmnopqrstuvwxyz"
LONGEST_NAME = 8
MOST_LEGS = 8


def is_name(thing):
    # The length is asked first, so that a long text is not walked.
    if not isinstance(thing, str) or not 1 <= len(thing) <= LONGEST_NAME:
        return False
    return all([sign in LETTERS for sign in thing])


def is_whole(thing):
    # A truth is an int for Python, but it is no whole number here.
    return isinstance(thing, int) and not isinstance(thing, bool)


def is_amount(thing):
    return is_whole(thing) and 1 <= thing < 10 ** 60


def is_line(thing):
    return is_amount(thing) or (is_whole(thing) and thing == 0)


def is_shelf(thing):
    if not isinstance(thing, tuple) or len(thing) != 2:
        return False
    return is_name(thing[0]) and is_name(thing[1])


def is_leg(thing):
    if not isinstance(thing, tuple) or len(thing) != 4:
        return False
    if not all([is_name(part) for part in thing[:3]]):
        return False
    return thing[0] != thing[1] and is_amount(thing[3])


def are_legs(thing):
    if not isinstance(thing, list) or not 1 <= len(thing) <= MOST_LEGS:
        return False
    return all([is_leg(leg) for leg in thing])


def deal_of(name, legs):
    # The refused things are not shown in the words: of anything, not all can be written as a text.
    if not is_name(name):
        raise NoName("a name is a text of one to eight small letters")
    if not are_legs(legs):
        raise NoLeg("legs are a list of one to eight tuples (giver, taker, ware, amount), giver and taker not the same")
    return (name, tuple(legs))


def gives(deal):
    return sheet_of([((giver, ware), amount) for giver, taker, ware, amount in deal[1]])


def brings(deal):
    return sheet_of([((taker, ware), amount) for giver, taker, ware, amount in deal[1]])


def change(deal):
    return minus(brings(deal), gives(deal))


def by_ware(one):
    return sheet_of([(shelf[1], number) for shelf, number in one.items()])


def rows_of(deal):
    return sorted(gives(deal))
