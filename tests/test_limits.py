"""Point 103: the limits."""

import unittest

from mustercall import limits

VALUES = {
    "MOST_PROCESSES": 12,
    "MOST_NUMBER": 1000000000000,
    "MOST_PAYLOAD": 30,
    "MOST_DIGITS": 24,
    "MOST_DEPTH": 8,
    "MOST_LENGTH": 100000,
}


class LimitsTest(unittest.TestCase):
    def test_each_limit_has_its_value(self):
        for name, value in VALUES.items():
            with self.subTest(name=name):
                self.assertEqual(getattr(limits, name), value)
                self.assertIs(type(getattr(limits, name)), int)

    def test_there_are_no_further_limits(self):
        names = [name for name in vars(limits) if not name.startswith("_")]
        self.assertEqual(sorted(names), sorted(VALUES))


if __name__ == "__main__":
    unittest.main()
