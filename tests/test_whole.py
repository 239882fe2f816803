"""The promise over the whole program, [3], looked at behind every row of many drawn halls."""

import random
import unittest

from dealknot.hall import Hall
from dealknot.texts import come_up, written
from small_books import faults, greatest, plainly_left, ring_book, room_of, shelves_of, values
from small_halls import PlainHall, answer_of, deal_row, drawn_hall, drawn_row, hall_of

NEVER = ("never", "named")


def drawn_halls(count):
    return [drawn_hall(seed, seed % 26) for seed in range(count)]


def by_ware(book):
    sums = {}
    for (house, ware), number in book.stock.items():
        sums[ware] = sums.get(ware, 0) + number
    return {ware: number for ware, number in sums.items() if number}


def laid_less_taken(rows):
    sums = {}
    for row in rows:
        words = row.split(" ")
        if words[0] in ["lay", "take"]:
            sums[words[2]] = sums.get(words[2], 0) + int(words[3]) * (1 if words[0] == "lay" else -1)
    return {ware: number for ware, number in sums.items() if number}


def strikes_of(answer):
    told = []
    for part in answer.split("; "):
        words = part.split(" ")
        told.append((words[0], (words[1], words[2]), None if words[3:] == ["short"] else words[4]))
    return told


class Looked(unittest.TestCase):
    def look_at_rows(self, rows, names):
        """The names keep the rows: in each of them, those of the names stand ahead of all others."""
        for row in rows.values():
            among = [name in names for name in row]
            self.assertEqual(among, sorted(among, reverse=True))


class EveryRow(Looked):
    def test_answers_and_books_are_those_of_the_plainest_hall(self):
        kinds = {}
        for seed in range(250):
            chance = random.Random(seed)
            hall, plain = Hall(), PlainHall()
            for turn in range(25):
                row = drawn_row(chance, hall.book)
                answer = answer_of(hall, row)
                self.assertEqual(answer, plain.say(row))
                self.assertEqual(values(hall.book), values(plain.book))
                kind = (row.split(" ")[0], " ".join(answer.split(" ")[:2]) if row == "bell" else answer)
                kinds[kind] = kinds.get(kind, 0) + 1
        # Each deed was done, and refused in each way that it can be.
        right = [("lay", "done"), ("take", "done"), ("take", "TooLittle"), ("line", "done"), ("line", "TooLittle"),
                 ("deal", "done"), ("deal", "Twice"), ("off", "done"), ("off", "NotWaiting"), ("put", "done"),
                 ("put", "NotWaiting"), ("bell", "done"), ("back", "back"), ("back", "NoBack")]
        self.assertEqual([kind for kind in right if kinds.get(kind, 0) < 10], [])
        self.assertEqual({kind for kind in kinds if kind[0] != "bell"} - set(right), set())

    def test_lines_and_wares_and_rows(self):
        for seed in range(250):
            chance = random.Random(1000 + seed)
            hall = Hall()
            # The rows that stand, each with its answer.
            standing = []
            for turn in range(25):
                row, ahead = drawn_row(chance, hall.book), values(hall.book)
                answer = answer_of(hall, row)
                if answer == "back":
                    standing.pop()
                elif answer.startswith("done"):
                    standing.append((row, answer))
                else:
                    self.assertEqual(values(hall.book), ahead)
                self.assertEqual(faults(hall.book), [])
                self.assertEqual(hall.told(), [one for one, other in standing])
                self.assertEqual(by_ware(hall.book), laid_less_taken(hall.told()))
                self.assertEqual(values(come_up(hall.told())), values(hall.book))
                if row == "bell":
                    self.look_at_rows(ahead[3], answer.split(" ")[1:])
                self.look_at_names(hall.book, standing)

    def look_at_names(self, book, standing):
        """Each offered deal is done at most once: it waits from its offer on, until it is done or called off."""
        waiting = []
        for row, answer in standing:
            words = row.split(" ")
            if words[0] == "deal":
                waiting.append(words[1])
            for name in answer.split(" ")[1:] + (words[1:] if words[0] == "off" else []):
                waiting.remove(name)
        self.assertEqual(sorted(waiting), sorted(book.deals))


class Agreement(Looked):
    """What questions tell is what rows that are said behind them bring about."""

    def bell_then(self, hall, rows):
        """The names that a bell does behind these rows; the hall goes back behind all of it."""
        for row in rows:
            hall.say(row)
        names = hall.say("bell").split(" ")[1:]
        for row in rows + ["bell"]:
            hall.say("back")
        return names

    def test_most(self):
        for hall in drawn_halls(200):
            names = greatest(hall.book, list(hall.book.deals))
            self.assertEqual(hall.say("most"), " ".join(names) or "none")
            self.assertEqual(self.bell_then(hall, []), names)

    def test_why(self):
        kinds = {"goes": 0, "short": 0, "behind": 0}
        for hall in drawn_halls(200):
            going = self.bell_then(hall, [])
            for name in sorted(hall.book.deals):
                answer = hall.say("why " + name)
                self.assertEqual(answer == "goes", name in going)
                kinds["goes" if answer == "goes" else answer.split("; ")[-1].split(" ")[3]] += 1
                if answer != "goes":
                    self.look_at_reason(hall.book, name, strikes_of(answer))
        self.assertGreater(min(kinds.values()), 20)

    def look_at_reason(self, book, name, paper):
        self.assertEqual(paper[-1][0], name)
        self.assertNotIn(name, plainly_left(book, paper))
        for place in range(len(paper)):
            left = plainly_left(book, paper[:place] + paper[place + 1:])
            self.assertTrue(left is None or name in left)

    def test_want(self):
        kinds = {"never": 0, "0": 0, "more": 0}
        for hall in drawn_halls(120):
            for name in sorted(hall.book.deals):
                for house, ware in shelves_of(hall.book) + [NEVER]:
                    answer = hall.say(f"want {name} {house} {ware}")
                    kinds[answer if answer in kinds else "more"] += 1
                    if answer == "never":
                        for amount in [1, 5, 1000, 10 ** 60 - 1]:
                            self.assertNotIn(name, self.bell_then(hall, [f"lay {house} {ware} {amount}"]))
                        continue
                    amount = int(answer)
                    laying = [f"lay {house} {ware} {amount}"] if amount else []
                    self.assertIn(name, self.bell_then(hall, laying))
                    less = [f"lay {house} {ware} {amount - 1}"] if amount > 1 else []
                    self.assertEqual(name in self.bell_then(hall, less), amount == 0)
        self.assertGreater(min(kinds.values()), 50)

    def test_spare(self):
        for hall in drawn_halls(120):
            names = self.bell_then(hall, [])
            for house, ware in shelves_of(hall.book):
                amount = int(hall.say(f"spare {house} {ware}"))
                self.assertEqual(self.bell_then(hall, [f"take {house} {ware} {amount}"] if amount else []), names)
                if amount < room_of(hall.book, (house, ware)):
                    self.assertNotEqual(self.bell_then(hall, [f"take {house} {ware} {amount + 1}"]), names)
                else:
                    self.assertEqual(answer_of(hall, f"take {house} {ware} {amount + 1}"), "TooLittle")

    def test_plan(self):
        sizes = {}
        rings = [hall_of(*written(ring_book(seed))) for seed in range(100)]
        for hall in drawn_halls(200) + rings:
            answer = hall.say("plan")
            going = self.bell_then(hall, [])
            # A waiting deal may be called none, so the empty plan is known by what goes.
            knots = [part.split(" ") for part in answer.split("; ")] if going else []
            if not going:
                self.assertEqual(answer, "none")
            self.assertEqual(sorted(sum(knots, [])), going)
            self.look_at_knots(hall, knots)
            for names in knots:
                sizes[len(names)] = sizes.get(len(names), 0) + 1
        self.assertGreater(min(sizes.get(size, 0) for size in [1, 2, 3]), 10)

    def look_at_knots(self, hall, knots):
        """Behind those ahead each knot goes, with rows kept, and no part of it does."""
        for names in knots:
            self.assertEqual(names, sorted(names))
            others = [name for name in sorted(hall.book.deals) if name not in names]
            self.look_at_rows(hall.book.rows, names)
            self.assertEqual(self.bell_then(hall, [f"off {name}" for name in others]), names)
            for name in names:
                self.assertEqual(greatest(hall.book, [other for other in names if other != name]), [])
            hall = self.behind_knot(hall, others)

    def behind_knot(self, hall, others):
        """The hall in which the knot alone is done: a bell while all others are called off, which then come back."""
        told = hall.told() + [f"off {name}" for name in others] + ["bell"]
        told.extend(deal_row(*hall.book.deals[name]) for name in others)
        for shelf, row in hall.book.rows.items():
            staying = [name for name in row if name in others]
            told.extend(f"put {shelf[0]} {shelf[1]} {name} {place}" for place, name in enumerate(staying))
        return hall_of(*told)


if __name__ == "__main__":
    unittest.main()
