"""Rows: for each shelf the names of the deals that wait to give from it, from the first to the last."""

from dealknot.deals import rows_of
from dealknot.errors import NotWaiting


def copied(rows):
    return dict([(shelf, list(row)) for shelf, row in rows.items()])


def marked(names):
    return dict([(name, True) for name in names])


def entered(rows, deal):
    told = copied(rows)
    for shelf in rows_of(deal):
        told[shelf] = told.get(shelf, []) + [deal[0]]
    return told


def left(rows, names):
    gone = marked(names)
    told = {}
    for shelf, row in rows.items():
        staying = [name for name in row if name not in gone]
        # A row without names is told by its shelf not being there.
        if staying:
            told[shelf] = staying
    return told


def put_to(rows, shelf, name, place):
    if name not in rows.get(shelf, []):
        raise NotWaiting(f"{name} does not stand in this row")
    others = [other for other in rows[shelf] if other != name]
    told = copied(rows)
    # A place beyond the end needs no care: a slice ends where the list does.
    told[shelf] = others[:place] + [name] + others[place:]
    return told


def breach(row, chosen):
    ahead = None
    for name in row:
        if name in chosen:
            if ahead is not None:
                return (ahead, name)
        elif ahead is None:
            ahead = name
    return None


def broken(rows, names):
    chosen = marked(names)
    for shelf in sorted(rows):
        pair = breach(rows[shelf], chosen)
        if pair is not None:
            return (shelf, pair[0], pair[1])
    return None
