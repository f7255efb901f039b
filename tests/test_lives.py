"""Points 205 to 207: the lives of a process."""

import itertools
import unittest

from mustercall.cells import Cells
from mustercall.errors import DiskCrashed
from mustercall.limits import MOST_NUMBER
from mustercall.lives import life_of, life_text, next_life
from odd import not_plain


class CountingCells(Cells):
    """A disk that keeps a list of what was written."""

    def __init__(self):
        super().__init__()
        self.written = []

    def write(self, cell, text):
        self.written.append((cell, text))
        super().write(cell, text)


def disk(first, second):
    """Return a disk with these texts."""
    cells = CountingCells()
    cells.write(0, first)
    cells.write(1, second)
    cells.written.clear()
    return cells


def texts(cells):
    return cells.read(0), cells.read(1)


class LifeTextTest(unittest.TestCase):
    def test_texts_of_lives(self):
        for life, text in ((0, "0=0"), (1, "1=1"), (9, "9=9"), (10, "10=10"), (17, "17=17"),
                           (MOST_NUMBER, "1000000000000=1000000000000"),
                           (MOST_NUMBER + 1, "1000000000001=1000000000001")):
            self.assertEqual(life_text(life), text)


class LifeOfTest(unittest.TestCase):
    def assert_none(self, *some):
        for text in some:
            with self.subTest(text=ascii(text)[:100]):
                life = life_of(text)
                self.assertEqual(life, 0)
                self.assertIs(type(life), int)

    def test_texts_of_lives(self):
        for life in list(range(1, 1200)) + [10 ** 6, MOST_NUMBER - 1, MOST_NUMBER]:
            self.assertEqual(life_of(life_text(life)), life)
        self.assertEqual(life_of("17=17"), 17)

    def test_numbers_that_are_no_lives(self):
        self.assert_none("0=0", "-1=-1", life_text(MOST_NUMBER + 1), life_text(10 * MOST_NUMBER), life_text(10 ** 40))
        self.assert_none("1" * 5000 + "=" + "1" * 5000)

    def test_leading_zeros(self):
        self.assert_none("01=01", "01=1", "1=01", "00=00", "007=007", "0000000000001=0000000000001", "00=0")

    def test_two_numbers_that_differ(self):
        self.assert_none("1=2", "2=1", "17=18", "17=1", "1=17", "17=71", "17=7", "7=17", "17=177")

    def test_signs_and_spaces(self):
        self.assert_none("+1=+1", "+1=1", "1=+1", "-1=1", "1=-1", " 1=1", "1=1 ", "1 =1", "1= 1", "1 = 1", " 1= 1",
                         "1=1\n", "\n1=1", "1_0=1_0", "1_0=10", "1e1=1e1", "1.0=1.0", "0x1=0x1")

    def test_equals_signs(self):
        self.assert_none("", "=", "==", "1", "17", "1717", "1=", "=1", "1==1", "=1=1", "1=1=", "1=1=1", "17==17",
                         "1:1", "1-1", "1 1", "a=a", "=a", "life=life")

    def test_digits_that_are_not_ascii(self):
        for code in (0x00b2, 0x0661, 0x0967, 0xff11, 0x2460):
            digit = chr(code)
            self.assert_none(f"{digit}={digit}", f"{digit}=1", f"1={digit}", f"1{digit}=1{digit}")

    def test_what_is_no_string(self):
        self.assert_none(1, 0, b"1=1", ("1=1",), ["1=1"], True)
        for label, value in not_plain():
            with self.subTest(label):
                self.assertEqual(life_of(value), 0)

    def test_each_short_text(self):
        good = {life_text(life): life for life in range(1, 100)}
        for length in range(6):
            for characters in itertools.product("019=- ", repeat=length):
                text = "".join(characters)
                self.assertEqual(life_of(text), good.get(text, 0), text)


class NextLifeTest(unittest.TestCase):
    def test_the_example_of_the_document(self):
        cells = Cells()
        self.assertEqual((next_life(cells), next_life(cells), next_life(cells)), (1, 2, 3))
        self.assertEqual(texts(cells), ("3=3", "2=2"))

    def test_many_lives(self):
        cells = CountingCells()
        for life in range(1, 1200):
            self.assertEqual(next_life(cells), life)
            self.assertEqual(cells.written[-1], ((life + 1) % 2, life_text(life)))
            self.assertEqual(len(cells.written), life)

    def test_the_lesser_cell_is_written(self):
        for first, second, cell, life in (
                ("", "", 0, 1), ("1=1", "", 1, 2), ("", "1=1", 0, 2), ("3=3", "2=2", 1, 4), ("2=2", "3=3", 0, 4),
                ("7=7", "7=7", 0, 8), ("junk", "waste", 0, 1), ("junk", "5=5", 0, 6), ("5=5", "junk", 1, 6),
                ("0=0", "", 0, 1), ("", "0=0", 0, 1), ("9=9", "10=10", 0, 11), ("10=10", "9=9", 1, 11),
                ("100=100", "2=2", 1, 101), ("5=6", "4=4", 0, 5), ("9=9", "99", 1, 10),
                (life_text(MOST_NUMBER - 1), "", 1, MOST_NUMBER), (life_text(MOST_NUMBER + 1), "3=3", 0, 4)):
            with self.subTest(first=first, second=second):
                cells = disk(first, second)
                self.assertEqual(next_life(cells), life)
                self.assertEqual(cells.written, [(cell, life_text(life))])
                kept = (second, first)[cell]
                self.assertEqual(texts(cells), ((life_text(life), kept), (kept, life_text(life)))[cell])

    def test_a_disk_that_crashes_raises(self):
        for keep in range(6):
            cells = disk("3=3", "2=2")
            cells.arm(0, keep)
            with self.assertRaises(DiskCrashed):
                next_life(cells)
            with self.assertRaises(DiskCrashed):
                next_life(cells)
            self.assertEqual(len(cells.written), 1)
            cells.crash()
            self.assertEqual(cells.read(0), "3=3")

    def test_a_crash_at_a_later_write(self):
        cells = Cells()
        cells.arm(2, 1)
        self.assertEqual((next_life(cells), next_life(cells)), (1, 2))
        with self.assertRaises(DiskCrashed):
            next_life(cells)
        cells.crash()
        self.assertEqual(texts(cells), ("3=1", "2=2"))
        self.assertEqual(next_life(cells), 3)


class CrashingTest(unittest.TestCase):
    """Point 207: all disks that crashes can lead to, from some lives on."""

    def starts(self):
        yield "", "", 0
        for last in (1, 2, 9, 10, 11, 19, 99, 100, 109, 999):
            yield life_text(last), life_text(last - 1), last
            yield life_text(last - 1), life_text(last), last

    def after_crash(self, first, second, keep):
        cells = disk(first, second)
        cells.arm(0, keep)
        with self.assertRaises(DiskCrashed):
            next_life(cells)
        cells.crash()
        return texts(cells)

    def after_life(self, first, second):
        cells = disk(first, second)
        life = next_life(cells)
        return texts(cells), life

    def test_whatever_crashes_each_life_is_greater_than_all_before(self):
        for first, second, last in self.starts():
            seen = set()
            waiting = [(first, second, last, 5)]
            while waiting:
                first, second, last, depth = state = waiting.pop()
                if state in seen:
                    continue
                seen.add(state)
                (after, behind), life = self.after_life(first, second)
                self.assertGreater(life, last, state)
                if depth == 0:
                    continue
                waiting.append((after, behind, life, depth - 1))
                for keep in range(len(life_text(life)) + 2):
                    crashed = self.after_crash(first, second, keep)
                    _, later = self.after_life(*crashed)
                    self.assertIn(later, (life, life + 1), (state, keep))
                    waiting.append(crashed + (last, depth - 1))

    def test_many_crashes_one_after_the_other(self):
        cells = Cells()
        last = 0
        for step in range(3000):
            crashes = step % 3 != 2
            if crashes:
                cells.arm(0, step % 11)
            try:
                life = next_life(cells)
            except DiskCrashed:
                self.assertTrue(crashes)
                cells.crash()
                continue
            self.assertFalse(crashes)
            self.assertGreater(life, last)
            self.assertLessEqual(life, last + 3)
            last = life
        self.assertGreaterEqual(last, 1000)


if __name__ == "__main__":
    unittest.main()
