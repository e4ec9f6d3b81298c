import unittest

from lastshort import limits

LISTED = {
    "MOST_ROUND": 12,
    "MOST_ENDING": 6,
    "MOST_REPLIES": 100,
    "MOST_ITEMS": 1000,
    "MOST_CUTTERS": 6,
    "MOST_WIDTH": 12,
}


class LimitsTest(unittest.TestCase):
    def test_each_name_has_its_listed_value(self):
        for name, value in LISTED.items():
            with self.subTest(name=name):
                self.assertEqual(getattr(limits, name), value)
                self.assertIs(type(getattr(limits, name)), int)


if __name__ == "__main__":
    unittest.main()
