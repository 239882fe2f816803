"""What is told is the same in every run of Python, though each run walks sets of texts in another order."""

import os
import subprocess
import sys
import unittest

from dealknot.knots import plan
from dealknot.reasons import reason
from dealknot.strikes import most
from dealknot.wants import want
from small_books import ring_book, shelves_of, small_book


def all_told():
    told = []
    for book in [ring_book(seed) for seed in range(60)] + [small_book(seed) for seed in range(60)]:
        told.extend([most(book), plan(book)])
        for name in sorted(book.deals):
            told.append(reason(book, name))
            told.extend(want(book, name, shelf) for shelf in shelves_of(book))
    return repr(told)


def told_in_a_run(seed):
    code = "import test_same; print(test_same.all_told())"
    folder = os.path.dirname(os.path.abspath(__file__))
    path = os.pathsep.join([os.path.dirname(folder), folder])
    run = subprocess.run([sys.executable, "-c", code], env=dict(os.environ, PYTHONHASHSEED=str(seed), PYTHONPATH=path),
                         stdout=subprocess.PIPE, text=True, check=True)
    return run.stdout.strip()


class Same(unittest.TestCase):
    def test_in_every_run(self):
        right = all_told()
        for seed in [1, 2, 3]:
            self.assertTrue(told_in_a_run(seed) == right, seed)


if __name__ == "__main__":
    unittest.main()
