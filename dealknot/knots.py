"""Knots: least sets of waiting deals that can be done all at once, and plans of them, one behind the other."""

from dealknot.going import done
from dealknot.strikes import Ground, most_of


def least_count(ground, needed, free):
    # With more names never less goes, so the least count is found by halving; all of the free ones do.
    low = 1
    high = len(free)
    while low < high:
        middle = (low + high) // 2
        if most_of(ground, needed + free[:middle])[0]:
            high = middle
        else:
            low = middle + 1
    return low


def least_going(ground, free):
    needed = []
    # Of the needed and the free together nothing goes without each of the needed: so once any of the needed go, all of
    # them do, and no part of them does.
    while not most_of(ground, needed)[0]:
        count = least_count(ground, needed, free)
        needed.append(free[count - 1])
        free = free[:count - 1]
    return sorted(needed)


def paper_without(ground, names, name):
    return most_of(ground, [other for other in names if other != name])[1]


def knot(book):
    ground = Ground(book)
    going = most_of(ground, None)[0]
    if not going:
        return None
    names = least_going(ground, going)
    return (names, [(name, paper_without(ground, names, name)) for name in names])


def plan(book):
    told = []
    found = knot(book)
    while found is not None:
        told.append(found)
        book = done(book, found[0])
        found = knot(book)
    return told
