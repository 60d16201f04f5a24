"""The first place at which something is so, beside a walk from the least place up."""

import unittest

from freshtold.places import first_place


class TestFirstPlace(unittest.TestCase):
    def test_each_place_of_many(self):
        for many in range(12):
            for first in range(many + 1):
                asked = []

                def is_so(place):
                    asked.append(place)
                    return place >= first

                self.assertEqual(first_place(many, is_so), first)
                self.assertTrue(all(0 <= place < many for place in asked))
                self.assertLess(len(asked), 5)


if __name__ == "__main__":
    unittest.main()
