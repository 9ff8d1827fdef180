import unittest

from squareloops import limits


class Limits(unittest.TestCase):
    def test_numbers(self):
        told = {
            "MOST_NESTS": 4, "MOST_DEEDS": 6, "MOST_ROWS": 12, "MOST_SIZE": 10 ** 30,
            "MOST_POWER": 10 ** 30, "MOST_LISTED": 200, "MOST_CHANGES": 6, "MOST_PROGRAMS": 8,
        }
        for name, number in told.items():
            with self.subTest(name):
                self.assertEqual(getattr(limits, name), number)
                self.assertIs(type(getattr(limits, name)), int)

    def test_places_in_their_order(self):
        self.assertIs(type(limits.PLACES), tuple)
        self.assertEqual(
            limits.PLACES,
            ("i,j", "j,i", "i,~j", "~j,i", "~i,j", "j,~i", "~i,~j", "~j,~i"),
        )


if __name__ == "__main__":
    unittest.main()
