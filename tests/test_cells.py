"""Points 201 to 204: the disk."""

import unittest

from mustercall.cells import Cells
from mustercall.errors import DiskCrashed, DiskError
from odd import not_plain

OLD = "old text"
NEW = ("new", "new words", "new text", "", "n")


def disk(first="", second=""):
    """Return a disk with these texts."""
    cells = Cells()
    cells.write(0, first)
    cells.write(1, second)
    return cells


class Case(unittest.TestCase):
    def assert_texts(self, cells, first, second):
        self.assertEqual((cells.read(0), cells.read(1)), (first, second))

    def assert_crashed(self, call, *arguments):
        with self.assertRaises(DiskCrashed) as caught:
            call(*arguments)
        self.assertIs(type(caught.exception), DiskCrashed)

    def assert_invalid(self, call, *arguments):
        with self.assertRaises(DiskError) as caught:
            call(*arguments)
        self.assertIs(type(caught.exception), DiskError)

    def crashed_disk(self, first="", second=""):
        """Return a disk that has crashed with these texts."""
        cells = disk(first, second)
        cells.arm(0, 0)
        self.assert_crashed(cells.write, 0, "lost")
        return cells


class ReadWriteTest(Case):
    def test_a_new_disk_has_empty_texts(self):
        self.assert_texts(Cells(), "", "")

    def test_writing_replaces_the_text_of_one_cell(self):
        cells = Cells()
        self.assertIsNone(cells.write(0, "one"))
        self.assert_texts(cells, "one", "")
        self.assertIsNone(cells.write(1, "two"))
        self.assert_texts(cells, "one", "two")
        cells.write(0, "a longer text")
        cells.write(1, "")
        self.assert_texts(cells, "a longer text", "")

    def test_any_string_may_be_written(self):
        for text in ("a" * 200000, "\n", chr(0), chr(37), chr(0x1f600), chr(0xd800)):
            self.assert_texts(disk(text, text + "2"), text, text + "2")

    def test_disks_are_independent(self):
        one, other = Cells(), Cells()
        one.write(0, "x")
        one.arm(0, 0)
        self.assert_crashed(one.write, 1, "y")
        self.assert_texts(other, "", "")
        other.write(1, "z")
        self.assert_texts(other, "", "z")


class InvalidTest(Case):
    def test_cells_that_are_not_0_or_1(self):
        for label, cell in not_plain() + [("2", 2), ("minus 1", -1), ("far", 10 ** 30), ("text", "0"), ("tuple", (0,))]:
            with self.subTest(label):
                cells = disk("a", "b")
                self.assert_invalid(cells.read, cell)
                self.assert_invalid(cells.write, cell, "c")
                self.assert_texts(cells, "a", "b")

    def test_texts_that_are_no_strings(self):
        for label, text in not_plain() + [("an integer", 1), ("a tuple", ("a",))]:
            with self.subTest(label):
                cells = disk("a", "b")
                self.assert_invalid(cells.write, 0, text)
                self.assert_invalid(cells.write, 1, text)
                self.assert_invalid(cells.write, 2, text)
                self.assert_texts(cells, "a", "b")

    def test_a_wrong_write_does_not_count_as_a_write_that_passes(self):
        cells = disk("a", "b")
        cells.arm(1, 0)
        self.assert_invalid(cells.write, 2, "c")
        self.assert_invalid(cells.write, 0, None)
        self.assert_invalid(cells.read, 2)
        cells.write(0, "c")
        self.assert_crashed(cells.write, 0, "d")

    def test_a_wrong_write_does_not_crash_the_disk(self):
        cells = disk("a", "b")
        cells.arm(0, 0)
        self.assert_invalid(cells.write, 2, "c")
        self.assert_invalid(cells.write, True, "c")
        self.assert_invalid(cells.write, 0, b"c")
        self.assert_texts(cells, "a", "b")
        self.assert_crashed(cells.write, 0, "d")

    def test_a_crashed_disk_does_not_look_at_the_arguments(self):
        cells = self.crashed_disk()
        for cell in (2, -1, True, None, "0"):
            self.assert_crashed(cells.read, cell)
            self.assert_crashed(cells.write, cell, "a")
        for text in (None, 1, b"a", ["a"]):
            self.assert_crashed(cells.write, 0, text)
            self.assert_crashed(cells.write, 7, text)


class CrashTest(Case):
    def test_so_many_writes_pass(self):
        for count in range(5):
            cells = disk("a", "b")
            self.assertIsNone(cells.arm(count, 0))
            for at in range(count):
                cells.write(at % 2, str(at))
                self.assertEqual(cells.read(at % 2), str(at))
            self.assert_crashed(cells.write, 0, "c")
            self.assert_crashed(cells.read, 0)

    def test_reads_do_not_count(self):
        cells = disk("a", "b")
        cells.arm(1, 0)
        for _ in range(5):
            self.assert_texts(cells, "a", "b")
        cells.write(0, "c")
        for _ in range(5):
            self.assert_texts(cells, "c", "b")
        self.assert_crashed(cells.write, 1, "d")

    def test_the_kept_part(self):
        for cell in (0, 1):
            for new in NEW:
                for keep in range(14):
                    with self.subTest(cell=cell, new=new, keep=keep):
                        cells = disk(OLD, OLD)
                        cells.arm(0, keep)
                        self.assert_crashed(cells.write, cell, new)
                        cells.crash()
                        kept = "".join(new[:keep])
                        kept += "".join(character for at, character in enumerate(OLD) if at >= keep)
                        self.assertEqual(cells.read(cell), kept)
                        self.assertEqual(cells.read(1 - cell), OLD)

    def test_some_kept_parts_written_out(self):
        for old, new, keep, kept in (
                ("abcde", "12345", 0, "abcde"), ("abcde", "12345", 2, "12cde"), ("abcde", "12345", 5, "12345"),
                ("abcde", "12345", 9, "12345"), ("abcde", "12", 2, "12cde"), ("abcde", "12", 3, "12de"),
                ("abcde", "12", 5, "12"), ("abcde", "12", 10 ** 12, "12"), ("ab", "12345", 1, "1b"),
                ("ab", "12345", 3, "123"), ("ab", "12345", 0, "ab"), ("", "123", 2, "12"), ("", "123", 0, ""),
                ("abc", "", 0, "abc"), ("abc", "", 2, "c"), ("abc", "", 3, "")):
            with self.subTest(old=old, new=new, keep=keep):
                cells = disk(old, "other")
                cells.arm(0, keep)
                self.assert_crashed(cells.write, 0, new)
                cells.crash()
                self.assert_texts(cells, kept, "other")

    def test_everything_raises_after_the_crash(self):
        cells = self.crashed_disk("a", "b")
        for _ in range(3):
            self.assert_crashed(cells.read, 0)
            self.assert_crashed(cells.read, 1)
            self.assert_crashed(cells.write, 0, "x")
            self.assert_crashed(cells.write, 1, "x")
        self.assertIsNone(cells.crash())
        self.assert_texts(cells, "a", "b")

    def test_starting_again_disarms_the_disk(self):
        cells = self.crashed_disk("a", "b")
        cells.crash()
        for at in range(5):
            cells.write(0, str(at))
        self.assert_texts(cells, "4", "b")

    def test_a_power_failure_keeps_the_texts_and_disarms(self):
        cells = disk("a", "b")
        cells.arm(0, 1)
        cells.crash()
        self.assert_texts(cells, "a", "b")
        cells.write(0, "c")
        cells.write(1, "d")
        self.assert_texts(cells, "c", "d")
        cells.crash()
        cells.crash()
        self.assert_texts(cells, "c", "d")

    def test_crash_again_and_again(self):
        cells = disk("aaaa", "")
        for keep, kept in ((1, "baaa"), (2, "bbaa"), (0, "bbaa"), (4, "bbbb")):
            cells.arm(0, keep)
            self.assert_crashed(cells.write, 0, "bbbb")
            cells.crash()
            self.assert_texts(cells, kept, "")


class ArmTest(Case):
    def test_a_later_arming_replaces_the_earlier_one(self):
        cells = disk("aaaa", "b")
        cells.arm(0, 1)
        cells.arm(2, 3)
        cells.write(1, "c")
        cells.write(1, "d")
        self.assert_crashed(cells.write, 0, "xxxx")
        cells.crash()
        self.assert_texts(cells, "xxxa", "d")

    def test_arming_again_after_some_writes(self):
        cells = disk("aaaa", "b")
        cells.arm(2, 4)
        cells.write(1, "c")
        cells.arm(0, 1)
        self.assert_crashed(cells.write, 0, "xxxx")
        cells.crash()
        self.assert_texts(cells, "xaaa", "c")

    def test_arming_again_counts_anew(self):
        cells = disk("aaaa", "b")
        cells.arm(1, 0)
        cells.write(1, "c")
        cells.arm(1, 0)
        cells.write(1, "d")
        self.assert_crashed(cells.write, 1, "e")

    def test_arming_a_crashed_disk_has_no_effect_after_crash(self):
        cells = self.crashed_disk("a", "b")
        self.assertIsNone(cells.arm(0, 1))
        self.assert_crashed(cells.read, 0)
        self.assert_crashed(cells.write, 0, "x")
        cells.crash()
        for text in ("c", "d", "e"):
            cells.write(0, text)
        self.assert_texts(cells, "e", "b")

    def test_arming_a_crashed_disk_does_not_change_what_was_kept(self):
        cells = disk("aaaa", "b")
        cells.arm(0, 2)
        self.assert_crashed(cells.write, 0, "xxxx")
        cells.arm(0, 4)
        self.assert_crashed(cells.write, 0, "yyyy")
        cells.crash()
        self.assert_texts(cells, "xxaa", "b")

    def test_arming_after_crash(self):
        cells = self.crashed_disk("aaaa", "b")
        cells.crash()
        cells.arm(1, 2)
        cells.write(1, "c")
        self.assert_crashed(cells.write, 0, "xxxx")
        cells.crash()
        self.assert_texts(cells, "xxaa", "c")

    def test_great_numbers(self):
        cells = disk("a", "b")
        cells.arm(10 ** 12, 10 ** 12)
        for at in range(50):
            cells.write(0, str(at))
        self.assert_texts(cells, "49", "b")
        cells.arm(0, 10 ** 12)
        self.assert_crashed(cells.write, 0, "c")
        cells.crash()
        self.assert_texts(cells, "c", "b")


if __name__ == "__main__":
    unittest.main()
