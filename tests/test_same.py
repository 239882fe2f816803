"""What is told is the same one each time: in every run of Python, though each run walks sets of texts in another order,
and for equal books, however they came about, by the functions and in a hall.
"""

import os
import subprocess
import sys
import unittest

from dealknot.knots import plan
from dealknot.reasons import reason
from dealknot.strikes import most
from dealknot.texts import written
from dealknot.wants import want
from small_books import ring_book, shelves_of, small_book, values
from small_halls import drawn_hall, hall_of


def questions_of(book):
    told = ["most", "plan"] + ["why " + name for name in sorted(book.deals)]
    for house, ware in shelves_of(book):
        told.extend(f"{word} {house} {ware}" for word in ["spare", "has", "row"])
        told.extend(f"want {name} {house} {ware}" for name in sorted(book.deals))
    return told


def answers_of(hall):
    return [hall.say(row) for row in questions_of(hall.book)]


def all_told():
    told = []
    for book in [ring_book(seed) for seed in range(60)] + [small_book(seed) for seed in range(60)]:
        told.extend([most(book), plan(book)])
        for name in sorted(book.deals):
            told.append(reason(book, name))
            told.extend(want(book, name, shelf) for shelf in shelves_of(book))
        told.extend(answers_of(hall_of(*written(book))))
    for hall in [drawn_hall(seed, 25) for seed in range(60)]:
        told.extend(answers_of(hall) + hall.told() + written(hall.book))
    return repr(told)


def told_in_a_run(seed):
    code = "import test_same; print(test_same.all_told())"
    folder = os.path.dirname(os.path.abspath(__file__))
    path = os.pathsep.join([os.path.dirname(folder), folder])
    run = subprocess.run([sys.executable, "-c", code], env=dict(os.environ, PYTHONHASHSEED=str(seed), PYTHONPATH=path),
                         stdout=subprocess.PIPE, text=True, check=True)
    return run.stdout.strip()


class Same(unittest.TestCase):
    def test_in_every_run(self):
        right = all_told()
        for seed in [1, 2, 3]:
            self.assertTrue(told_in_a_run(seed) == right, seed)

    def test_in_halls_that_came_by_their_book_in_other_ways(self):
        for seed in range(100):
            hall = drawn_hall(seed, 25)
            right = answers_of(hall)
            # Deeds that leave nothing behind, and the shortest way to the book.
            detour = hall_of("deal x a b w 1", "lay a w 1", "off x", "bell", "take a w 1", *hall.told())
            for other in [hall_of(*hall.told()), hall_of(*written(hall.book)), detour]:
                self.assertEqual(values(other.book), values(hall.book))
                self.assertEqual(answers_of(other), right)
                self.assertEqual(plan(other.book), plan(hall.book))
                for name in hall.book.deals:
                    self.assertEqual(reason(other.book, name), reason(hall.book, name))
            hall.say("lay a w 1")
            hall.say("bell")
            hall.say("back")
            hall.say("back")
            self.assertEqual(answers_of(hall), right)


if __name__ == "__main__":
    unittest.main()
