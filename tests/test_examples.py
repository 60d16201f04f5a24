"""The examples of the document, those that read no text; and that the package's own file is empty."""

import pathlib
import unittest

import freshtold
from freshtold.sums import added, are_independent, comes_to, dependence, given_by, made_by, strife_of, times, world_of
from freshtold.texts import show_history, show_plan


class TestStage1(unittest.TestCase):
    def test_rows(self):
        house, rows = (5, 2), (((1, 2), 3), ((0, 1), 4))
        shown = [made_by(house, rows, (1, 3)), given_by(house, rows, (2, 0)), given_by(house, rows[:1], (0, 1)),
                 world_of(house, rows)]
        self.assertEqual(shown, [((1, 0), 0), (0, (2, 1)), None, (0, 4)])

    def test_sums(self):
        house, rows = (5, 2), (((1, 2), 3), ((0, 1), 4))
        shown = [added(house, (1, 2), (4, 4)), times(house, 3, (1, 2)), comes_to(house, (0, 4), (1, 1)),
                 are_independent(house, rows)]
        self.assertEqual(shown, [(0, 1), (3, 1), 4, True])

    def test_more_rows(self):
        house, more = (5, 2), (((1, 2), 3), ((0, 1), 4), ((1, 3), 0))
        shown = [made_by(house, more, dependence(house, more))[0], world_of(house, more),
                 made_by(house, more, strife_of(house, more))[1] > 0]
        self.assertEqual(shown, [(0, 0), None, True])

    def test_texts(self):
        history = ((3, 2), ((('tell', (1, 0), 1), 0, 3, 'new'), (('ask', (1, 1)), 2, None, None)))
        self.assertEqual(show_history(history), 'house 3 2\ntell 1 0 = 1 at 0 3 new\nask 1 1 at 2 never -')
        self.assertEqual(show_plan(((2, 0), ((("ask", ()), -1, 4),))), 'house 2 0\nask at -1 4')


class TestPackage(unittest.TestCase):
    def test_the_package_is_one_folder_whose_own_file_is_empty(self):
        self.assertEqual(pathlib.Path(freshtold.__file__).read_bytes(), b"")


if __name__ == "__main__":
    unittest.main()
