import inspect
import unittest

from blockkeep.disk import Disk
from blockkeep.errors import BadDisk, BadRow, NoBlock, Stopped
from tests.helping import NEVER_BLOCKS, NO_ROWS, all_rows, row_of

NO_BLOCKS = NEVER_BLOCKS + [24, 25]


class MadeTest(unittest.TestCase):
    def test_every_count_from_24_to_96(self):
        for many in range(24, 97):
            disk = Disk(many)
            with self.subTest(many=many):
                self.assertEqual(disk.blocks(), many)
                self.assertEqual(all_rows(disk), [[0] * 16] * many)
                self.assertEqual(disk.writes(), 0)

    def test_it_may_be_written_at_once(self):
        disk = Disk(24)
        for block in range(24):
            disk.write(block, row_of(block))
        self.assertEqual(all_rows(disk), [row_of(block) for block in range(24)])

    def test_other_counts_are_refused(self):
        for place, many in enumerate([23, 97, 0, 1, -1, -24, 10 ** 5000, True, False, "24", "", None, [], [24], (24,),
                                      {}, 24.0]):
            with self.subTest(place=place):
                self.assertRaises(BadDisk, Disk, many)

    def test_disks_are_apart(self):
        one = Disk(24)
        other = Disk(24)
        one.write(3, row_of(1))
        one.stop_after(0)
        other.write(4, row_of(2))
        self.assertEqual(one.read(4), row_of(0))
        self.assertEqual(other.read(3), row_of(0))
        self.assertEqual((one.writes(), other.writes()), (1, 1))


class ReadAndWriteTest(unittest.TestCase):
    def test_first_and_last_block(self):
        for many in (24, 50, 96):
            disk = Disk(many)
            wanted = [row_of(0)] * many
            for done, block in enumerate((0, many - 1, many // 2, 0), start=1):
                row = list(range(done * 100, done * 100 + 16))
                with self.subTest(many=many, block=block):
                    self.assertIsNone(disk.write(block, row))
                    wanted[block] = list(row)
                    self.assertEqual(all_rows(disk), wanted)
                    self.assertEqual(disk.writes(), done)
                    self.assertEqual(disk.blocks(), many)

    def test_the_same_row_again_counts(self):
        disk = Disk(24)
        for count in range(1, 4):
            disk.write(5, row_of(0))
            self.assertEqual(disk.writes(), count)

    def test_greatest_and_least_words(self):
        disk = Disk(24)
        disk.write(2, [999999999, 0] * 8)
        self.assertEqual(disk.read(2), [999999999, 0] * 8)

    def test_questions_count_as_no_writes(self):
        disk = Disk(24)
        disk.read(0)
        disk.blocks()
        disk.twin()
        disk.stop_after(3)
        disk.go_on()
        self.assertEqual(disk.writes(), 0)

    def test_a_row_handed_in_may_be_changed_later(self):
        disk = Disk(24)
        row = row_of(7)
        disk.write(1, row)
        disk.write(2, row)
        self.assertEqual(row, row_of(7))
        row[0] = 8
        row.append(9)
        self.assertEqual(disk.read(1), row_of(7))
        self.assertEqual(disk.read(2), row_of(7))

    def test_a_row_told_may_be_changed_later(self):
        disk = Disk(24)
        disk.write(1, row_of(7))
        for block, word in ((1, 7), (4, 0)):
            told = disk.read(block)
            told[15] = 8
            told.append(9)
            self.assertEqual(disk.read(block), row_of(word))
        self.assertEqual(disk.read(5), row_of(0))

    def test_a_row_told_ahead_stays_as_it_was(self):
        disk = Disk(24)
        disk.write(1, row_of(7))
        told = disk.read(1)
        disk.write(1, row_of(8))
        self.assertEqual(told, row_of(7))
        self.assertEqual(disk.read(1), row_of(8))

    def test_each_reading_tells_a_new_list(self):
        disk = Disk(24)
        self.assertIsNot(disk.read(1), disk.read(1))


class RefusedTest(unittest.TestCase):
    def setUp(self):
        self.disk = Disk(24)
        self.disk.write(0, row_of(3))
        self.disk.write(23, row_of(4))
        self.rows = all_rows(self.disk)

    def check_nothing_changed(self):
        self.assertEqual(all_rows(self.disk), self.rows)
        self.assertEqual(self.disk.writes(), 2)

    def test_read_refuses_what_is_no_block(self):
        for place, block in enumerate(NO_BLOCKS):
            with self.subTest(place=place):
                self.assertRaises(NoBlock, self.disk.read, block)
                self.check_nothing_changed()

    def test_write_refuses_what_is_no_block(self):
        for place, block in enumerate(NO_BLOCKS):
            with self.subTest(place=place):
                self.assertRaises(NoBlock, self.disk.write, block, row_of(1))
                self.check_nothing_changed()

    def test_the_bound_is_the_count_of_blocks(self):
        for many in (24, 25, 96):
            disk = Disk(many)
            with self.subTest(many=many):
                self.assertRaises(NoBlock, disk.read, many)
                self.assertRaises(NoBlock, disk.write, many, row_of(1))

    def test_write_refuses_what_is_no_row(self):
        for row in NO_ROWS:
            with self.subTest(row=row):
                self.assertRaises(BadRow, self.disk.write, 23, row)
                self.check_nothing_changed()

    def test_block_ahead_of_row(self):
        for place, block in enumerate(NO_BLOCKS):
            for row in NO_ROWS:
                with self.subTest(place=place, row=row):
                    self.assertRaises(NoBlock, self.disk.write, block, row)
        self.check_nothing_changed()

    def test_block_ahead_of_stop(self):
        self.disk.stop_after(0)
        for place, block in enumerate(NO_BLOCKS):
            with self.subTest(place=place):
                self.assertRaises(NoBlock, self.disk.write, block, row_of(1))
        self.check_nothing_changed()

    def test_row_ahead_of_stop(self):
        self.disk.stop_after(0)
        for row in NO_ROWS:
            with self.subTest(row=row):
                self.assertRaises(BadRow, self.disk.write, 0, row)
        self.check_nothing_changed()

    def test_block_ahead_of_row_and_stop(self):
        self.disk.stop_after(0)
        for place, block in enumerate(NO_BLOCKS):
            for row in NO_ROWS:
                with self.subTest(place=place, row=row):
                    self.assertRaises(NoBlock, self.disk.write, block, row)
        self.check_nothing_changed()


class StopTest(unittest.TestCase):
    def check_lets_just(self, disk, count):
        done = disk.writes()
        for step in range(count):
            disk.write(step % disk.blocks(), row_of(500 + step))
            self.assertEqual(disk.writes(), done + step + 1)
        rows = all_rows(disk)
        for block in (0, 0, 5, disk.blocks() - 1):
            self.assertRaises(Stopped, disk.write, block, row_of(77))
            self.assertEqual(disk.writes(), done + count)
            self.assertEqual(all_rows(disk), rows)

    def test_just_so_many_more_are_done(self):
        for ahead in (0, 3):
            for count in (0, 1, 2, 7, 40):
                disk = Disk(24)
                for block in range(ahead):
                    disk.write(block, row_of(9))
                with self.subTest(ahead=ahead, count=count):
                    self.assertIsNone(disk.stop_after(count))
                    self.check_lets_just(disk, count)

    def test_refused_writes_use_up_none(self):
        disk = Disk(24)
        disk.stop_after(2)
        for step in range(5):
            self.assertRaises(NoBlock, disk.write, 24, row_of(1))
            self.assertRaises(BadRow, disk.write, 0, [1])
        self.assertEqual(disk.writes(), 0)
        self.check_lets_just(disk, 2)

    def test_reading_uses_up_none(self):
        disk = Disk(24)
        disk.stop_after(1)
        for block in range(24):
            disk.read(block)
        self.check_lets_just(disk, 1)

    def test_told_anew_the_last_word_holds(self):
        told = [(2, 0, 5), (5, 0, 2), (5, 0, 0), (0, 0, 3), (3, 3, 2), (3, 1, 1), (3, 1, 3), (2, 2, 0)]
        for first, used, last in told:
            disk = Disk(24)
            disk.stop_after(first)
            for step in range(used):
                disk.write(step, row_of(1))
            disk.stop_after(last)
            with self.subTest(first=first, used=used, last=last):
                self.check_lets_just(disk, last)

    def test_told_anew_behind_a_refusal(self):
        disk = Disk(24)
        disk.stop_after(0)
        self.check_lets_just(disk, 0)
        disk.stop_after(2)
        self.check_lets_just(disk, 2)

    def test_go_on_lets_all_be(self):
        for count in (None, 0, 1, 4):
            disk = Disk(24)
            if count is not None:
                disk.stop_after(count)
                self.check_lets_just(disk, count)
            done = disk.writes()
            with self.subTest(count=count):
                self.assertIsNone(disk.go_on())
                self.assertEqual(disk.writes(), done)
                for step in range(200):
                    disk.write(step % 24, row_of(step))
                self.assertEqual(disk.writes(), done + 200)
                self.assertEqual(disk.read(199 % 24), row_of(199))

    def test_go_on_ahead_of_the_stop_that_was_told(self):
        disk = Disk(24)
        disk.stop_after(3)
        disk.write(0, row_of(1))
        disk.go_on()
        for step in range(10):
            disk.write(0, row_of(step))
        self.assertEqual(disk.writes(), 11)

    def test_a_stop_behind_go_on_holds(self):
        disk = Disk(24)
        disk.stop_after(0)
        disk.go_on()
        disk.stop_after(1)
        self.check_lets_just(disk, 1)


class TwinTest(unittest.TestCase):
    def setUp(self):
        self.disk = Disk(25)
        for block in (0, 7, 24):
            self.disk.write(block, row_of(block + 1))

    def test_same_rows_and_no_writes(self):
        twin = self.disk.twin()
        self.assertIsInstance(twin, Disk)
        self.assertIsNot(twin, self.disk)
        self.assertEqual(twin.blocks(), 25)
        self.assertEqual(all_rows(twin), all_rows(self.disk))
        self.assertEqual(twin.writes(), 0)
        self.assertEqual(self.disk.writes(), 3)

    def test_it_may_go_on_whatever_the_disk_may(self):
        for count in (0, 1, 5):
            self.disk.stop_after(count)
            twin = self.disk.twin()
            with self.subTest(count=count):
                for step in range(30):
                    twin.write(step % 25, row_of(step))
                self.assertEqual(twin.writes(), 30)

    def test_the_disk_stays_stopped(self):
        self.disk.stop_after(1)
        self.disk.twin().write(0, row_of(50))
        self.disk.write(1, row_of(51))
        self.disk.twin()
        self.assertRaises(Stopped, self.disk.write, 1, row_of(52))
        self.assertEqual(self.disk.writes(), 4)

    def test_a_write_changes_nothing_of_the_other(self):
        rows = all_rows(self.disk)
        twin = self.disk.twin()
        twin.write(7, row_of(50))
        self.assertEqual(all_rows(self.disk), rows)
        self.assertEqual(self.disk.writes(), 3)
        self.disk.write(24, row_of(60))
        self.assertEqual(twin.read(24), row_of(25))
        self.assertEqual(twin.read(7), row_of(50))
        self.assertEqual(twin.writes(), 1)

    def test_a_stop_changes_nothing_of_the_other(self):
        twin = self.disk.twin()
        twin.stop_after(0)
        self.disk.write(0, row_of(50))
        twin.go_on()
        self.disk.stop_after(0)
        twin.write(0, row_of(51))
        self.assertRaises(Stopped, self.disk.write, 0, row_of(52))
        self.assertEqual((self.disk.read(0), twin.read(0)), (row_of(50), row_of(51)))

    def test_go_on_changes_nothing_of_the_other(self):
        twin = self.disk.twin()
        for stopped, going in ((self.disk, twin), (twin, self.disk)):
            stopped.stop_after(0)
            going.go_on()
            self.assertRaises(Stopped, stopped.write, 0, row_of(1))

    def test_a_twin_of_a_twin(self):
        twin = self.disk.twin()
        twin.write(2, row_of(40))
        twin.stop_after(0)
        second = twin.twin()
        self.assertEqual(all_rows(second), all_rows(twin))
        self.assertEqual((second.writes(), twin.writes(), self.disk.writes()), (0, 1, 3))
        second.write(2, row_of(41))
        self.assertRaises(Stopped, twin.write, 2, row_of(42))
        self.assertEqual([disk.read(2) for disk in (self.disk, twin, second)], [row_of(0), row_of(40), row_of(41)])
        twin.go_on()
        twin.write(3, row_of(43))
        self.assertEqual(second.read(3), row_of(0))
        self.assertEqual(self.disk.read(3), row_of(0))

    def test_two_twins_are_apart(self):
        one = self.disk.twin()
        other = self.disk.twin()
        one.write(5, row_of(1))
        self.assertEqual(other.read(5), row_of(0))


class InterfaceTest(unittest.TestCase):
    def test_names_and_arguments(self):
        wanted = {"blocks": [], "read": ["block"], "write": ["block", "row"], "writes": [], "stop_after": ["count"],
                  "go_on": [], "twin": []}
        self.assertEqual(list(inspect.signature(Disk).parameters), ["many"])
        for name, arguments in wanted.items():
            with self.subTest(name=name):
                self.assertEqual(list(inspect.signature(getattr(Disk(24), name)).parameters), arguments)


if __name__ == "__main__":
    unittest.main()
