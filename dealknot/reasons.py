"""Reasons: why a deal waits on, as a paper that strikes it and has no needless strike."""

from dealknot.books import check_waiting
from dealknot.strikes import Ground, Slate, most_of, strike_along


def up_to(paper, name):
    place = [strike[0] for strike in paper].index(name)
    return paper[:place + 1]


def needful(ground, paper):
    kept = paper
    # From the end on: what a kept strike needs, it needs still when more of those ahead are left out.
    for place in range(len(paper) - 2, -1, -1):
        shorter = kept[:place] + kept[place + 1:]
        if strike_along(Slate(ground, []), shorter):
            kept = shorter
    return kept


def reason(book, name):
    check_waiting(book, name)
    ground = Ground(book)
    names, paper = most_of(ground, None)
    if name in names:
        return None
    return needful(ground, up_to(paper, name))
