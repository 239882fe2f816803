"""Sheets: dicts from keys to whole numbers, none of which is 0; a key that is not in one has 0 there."""


def sheet_of(pairs):
    sums = {}
    for key, number in pairs:
        sums[key] = sums.get(key, 0) + number
    # A sum may pass through 0 and leave it again, so zeros are dropped at the end alone.
    sheet = {}
    for key, number in sums.items():
        if number != 0:
            sheet[key] = number
    return sheet


def at(one, key):
    return one.get(key, 0)


def summed(sheets):
    pairs = []
    for one in sheets:
        pairs.extend(list(one.items()))
    return sheet_of(pairs)


def plus(one, other):
    return summed([one, other])


def minus(one, other):
    return sheet_of(list(one.items()) + [(key, -number) for key, number in other.items()])


def total(one):
    return sum(one.values())
