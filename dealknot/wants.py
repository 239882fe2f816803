"""Wants: the least that a shelf lacks for a waiting deal to go, and what a shelf can spare."""

from dealknot.books import check_shelf, check_waiting, room
from dealknot.going import done
from dealknot.sheets import at
from dealknot.strikes import Ground, Slate, most, strike_out


def need_of_unstruck(slate, shelf):
    needs = slate.ground.needs.get(shelf, {})
    return max([need for name, need in needs.items() if name not in slate.struck], default=0)


def least_with(slate, shelf, amount):
    # The amount lies there on the slate, and nothing can be struck; with less than what is told, something could.
    unneeded = at(slate.supply, shelf) - need_of_unstruck(slate, shelf)
    return max(amount - unneeded, 0)


def want(book, name, shelf):
    check_shelf(shelf)
    check_waiting(book, name)
    slate = Slate(Ground(book), [])
    # With so much more there, no deal is short at this shelf, whatever is struck.
    amount = need_of_unstruck(slate, shelf)
    slate.shift_supply(shelf, amount)
    paper = strike_out(slate, slate.ground.shelves)
    least = None
    names = []
    # What holds holds on when less lies on the shelf, so one paper grows while the amount falls.
    while name not in slate.struck:
        names = slate.unstruck()
        least = least_with(slate, shelf, amount)
        if least == 0:
            return (0, names, [])
        slate.shift_supply(shelf, least - 1 - amount)
        amount = least - 1
        paper.extend(strike_out(slate, [shelf]))
    return (least, names, paper)


def spare(book, shelf):
    check_shelf(shelf)
    # The most stays as long as it goes on: less stock makes nothing more go.
    return min(room(book, shelf), room(done(book, most(book)[0]), shelf))
