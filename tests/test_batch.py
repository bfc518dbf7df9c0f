import inspect
import itertools
import unittest

from blockkeep.batch import Batch
from blockkeep.errors import BadRow, NoBlock, Stopped, TooMuch
from blockkeep.journal import come_back
from tests.helping import NEVER_BLOCKS, NO_ROWS, BatchCase, all_rows, counted_row, full_disk, new_pairs, row_of


class BatchTest(BatchCase):
    """A full disk of forty blocks with a batch."""

    def setUp(self):
        self.start_on(full_disk(40))


class ReadTest(BatchTest):
    def test_blocks_that_were_not_written(self):
        for block in range(40):
            with self.subTest(block=block):
                self.assertEqual(self.batch.read(block), self.rows[block])
        self.check_disk_as_it_was()
        self.assertEqual(self.batch.pairs(), [])

    def test_a_block_that_was_written_once_and_again(self):
        for block in (17, 18, 30, 39):
            with self.subTest(block=block):
                self.batch.write(block, counted_row(7))
                self.assertEqual(self.batch.read(block), counted_row(7))
                self.batch.write(block, counted_row(90))
                self.assertEqual(self.batch.read(block), counted_row(90))
                self.batch.write(block, row_of(0))
                self.assertEqual(self.batch.read(block), row_of(0))
        self.check_disk_as_it_was()

    def test_other_blocks_beside_one_that_was_written(self):
        self.batch.write(20, row_of(1))
        wanted = list(self.rows)
        wanted[20] = row_of(1)
        self.assertEqual([self.batch.read(block) for block in range(40)], wanted)

    def test_what_is_no_block(self):
        for written in (False, True):
            if written:
                for block in (17, 18, 39):
                    self.batch.write(block, row_of(1))
            for place, block in enumerate(NEVER_BLOCKS + [40, 41]):
                with self.subTest(written=written, place=place):
                    self.assertRaises(NoBlock, self.batch.read, block)
        self.assertEqual(self.batch.pairs(), [(17, row_of(1)), (18, row_of(1)), (39, row_of(1))])

    def test_a_row_told_may_be_changed(self):
        self.batch.write(20, row_of(1))
        for block, wanted in ((20, row_of(1)), (21, self.rows[21]), (0, self.rows[0])):
            told = self.batch.read(block)
            told[3] = 77
            told.append(5)
            with self.subTest(block=block):
                self.assertEqual(self.batch.read(block), wanted)
                self.assertIsNot(self.batch.read(block), self.batch.read(block))
        self.assertEqual(self.batch.pairs(), [(20, row_of(1))])
        self.check_disk_as_it_was()

    def test_a_row_told_ahead_stays_behind_a_later_write(self):
        first = self.batch.read(20)
        self.batch.write(20, row_of(1))
        second = self.batch.read(20)
        self.batch.write(20, row_of(2))
        self.batch.finish()
        self.assertEqual(first, self.rows[20])
        self.assertEqual(second, row_of(1))

    def test_a_row_of_the_disk_itself(self):
        self.batch.write(20, row_of(1))
        self.disk.write(20, row_of(2))
        self.disk.write(21, row_of(3))
        self.disk.write(5, row_of(4))
        self.assertEqual([self.batch.read(block) for block in (20, 21, 5)], [row_of(1), row_of(3), row_of(4)])
        self.disk.write(21, row_of(6))
        self.assertEqual(self.batch.read(21), row_of(6))


class WriteTest(BatchTest):
    def test_each_home(self):
        for block in range(17, 40):
            with self.subTest(block=block):
                self.assertIsNone(self.batch.write(block, row_of(block)))
                self.assertEqual(self.batch.read(block), row_of(block))
        self.check_disk_as_it_was()

    def test_greatest_and_least_words(self):
        self.batch.write(17, [999999999, 0] * 8)
        self.assertEqual(self.batch.read(17), [999999999, 0] * 8)

    def test_a_row_handed_in_may_be_changed_behind(self):
        row = row_of(1)
        self.batch.write(20, row)
        self.batch.write(21, row)
        self.assertEqual(row, row_of(1))
        row[0] = 2
        row.append(3)
        self.assertEqual(self.batch.pairs(), [(20, row_of(1)), (21, row_of(1))])
        self.assertEqual(self.batch.read(20), row_of(1))
        self.batch.finish()
        self.assertEqual([self.disk.read(20), self.disk.read(21)], [row_of(1), row_of(1)])

    def check_refused(self, error, block, row):
        self.assertRaises(error, self.batch.write, block, row)
        self.assertEqual(self.batch.pairs(), [(20, row_of(1))])
        self.assertEqual(self.batch.read(20), row_of(1))

    def test_what_is_no_home(self):
        self.batch.write(20, row_of(1))
        for place, block in enumerate(list(range(17)) + NEVER_BLOCKS + [40, 41]):
            with self.subTest(place=place):
                self.check_refused(NoBlock, block, row_of(2))
        self.check_disk_as_it_was()

    def test_the_bound_is_the_count_of_blocks(self):
        for many in (24, 25, 95, 96):
            batch = Batch(full_disk(many))
            batch.write(many - 1, row_of(1))
            with self.subTest(many=many):
                self.assertRaises(NoBlock, batch.write, many, row_of(1))
                self.assertRaises(NoBlock, batch.read, many)
                self.assertEqual(batch.pairs(), [(many - 1, row_of(1))])

    def test_what_is_no_row(self):
        self.batch.write(20, row_of(1))
        for row in NO_ROWS:
            for block in (17, 20, 39):
                with self.subTest(row=row, block=block):
                    self.check_refused(BadRow, block, row)
        self.check_disk_as_it_was()

    def test_block_ahead_of_row(self):
        self.batch.write(20, row_of(1))
        for place, block in enumerate([0, 1, 16] + NEVER_BLOCKS + [40]):
            for row in NO_ROWS:
                with self.subTest(place=place, row=row):
                    self.check_refused(NoBlock, block, row)

    def test_a_stopped_disk_lets_it_be(self):
        self.disk.stop_after(0)
        self.batch.write(20, row_of(1))
        self.assertEqual(self.batch.read(20), row_of(1))
        self.check_disk_as_it_was()

    def test_more_than_can_be_finished(self):
        for block in range(17, 40):
            self.batch.write(block, row_of(block))
        self.assertEqual(self.batch.pairs(), [(block, row_of(block)) for block in range(17, 40)])


class PairsTest(BatchTest):
    def test_of_an_empty_batch(self):
        self.assertEqual(self.batch.pairs(), [])
        self.assertIsNot(self.batch.pairs(), self.batch.pairs())

    def test_rising_whatever_the_order(self):
        for blocks in itertools.permutations((17, 18, 30, 39)):
            batch = Batch(self.disk)
            for block in blocks:
                batch.write(block, row_of(block))
            with self.subTest(blocks=blocks):
                self.assertEqual(batch.pairs(), [(block, row_of(block)) for block in (17, 18, 30, 39)])

    def test_each_block_once_with_its_last_row(self):
        for block, word in ((30, 1), (17, 2), (30, 3), (39, 4), (17, 5), (30, 6)):
            self.batch.write(block, row_of(word))
        self.assertEqual(self.batch.pairs(), [(17, row_of(5)), (30, row_of(6)), (39, row_of(4))])

    def test_a_row_that_is_the_disks_is_one_of_them(self):
        self.batch.write(20, self.rows[20])
        self.assertEqual(self.batch.pairs(), [(20, self.rows[20])])

    def test_kinds(self):
        self.batch.write(20, row_of(1))
        self.batch.write(19, row_of(2))
        told = self.batch.pairs()
        self.assertIs(type(told), list)
        for pair in told:
            self.assertEqual([type(pair), type(pair[0]), type(pair[1])], [tuple, int, list])

    def test_the_list_and_its_rows_are_the_askers_own(self):
        self.batch.write(20, row_of(1))
        self.batch.write(21, row_of(2))
        told = self.batch.pairs()
        told[0][1][5] = 77
        told[1][1].clear()
        told.pop()
        self.assertEqual(self.batch.pairs(), [(20, row_of(1)), (21, row_of(2))])
        self.assertEqual(self.batch.read(20), row_of(1))

    def test_pairs_told_ahead_stay(self):
        self.batch.write(20, row_of(1))
        told = self.batch.pairs()
        self.batch.write(20, row_of(2))
        self.batch.write(18, row_of(3))
        self.batch.finish()
        self.assertEqual(told, [(20, row_of(1))])

    def test_nothing_is_written_by_asking(self):
        self.batch.write(20, row_of(1))
        self.batch.pairs()
        self.check_disk_as_it_was()


class FinishTest(BatchTest):
    def wanted_rows(self, pairs):
        rows = list(self.rows)
        for block, row in pairs:
            rows[block] = row
        return rows[:1] + rows[17:]

    def write_all(self, pairs):
        for block, row in pairs:
            self.batch.write(block, row)

    def rows_outside_log(self):
        rows = all_rows(self.disk)
        return rows[:1] + rows[17:]

    def test_each_count_of_rows(self):
        for count in range(16):
            self.setUp()
            pairs = new_pairs(range(20, 20 + count))
            self.write_all(reversed(pairs))
            with self.subTest(count=count):
                self.assertIsNone(self.batch.finish())
                self.assertEqual(self.disk.writes(), 2 * count + 2 if count else 0)
                self.assertEqual(self.rows_outside_log(), self.wanted_rows(pairs))
                self.assertEqual(self.disk.read(1), row_of(0))
                self.assertEqual(self.batch.pairs(), [])

    def test_none_is_no_write_on_a_stopped_disk_either(self):
        self.disk.stop_after(0)
        self.assertIsNone(self.batch.finish())
        self.check_disk_as_it_was()

    def test_a_block_written_twice_is_one_row(self):
        self.write_all([(20, row_of(1)), (20, row_of(2))])
        self.batch.finish()
        self.assertEqual(self.disk.writes(), 4)
        self.assertEqual(self.disk.read(20), row_of(2))

    def test_it_is_done_by_the_log(self):
        self.write_all([(30, row_of(1)), (20, row_of(2))])
        self.batch.finish()
        self.assertEqual([self.disk.read(2), self.disk.read(3), self.disk.read(4)],
                         [row_of(2), row_of(1), self.rows[4]])

    def test_the_batch_goes_on(self):
        first = new_pairs([18, 25])
        self.write_all(first)
        self.batch.finish()
        self.assertEqual(self.batch.read(18), first[0][1])
        self.disk.write(18, row_of(9))
        self.assertEqual(self.batch.read(18), row_of(9))
        self.assertIsNone(self.batch.finish())
        self.assertEqual(self.disk.writes(), 7)
        self.write_all([(25, row_of(3)), (30, row_of(4)), (31, row_of(5))])
        self.assertEqual(self.batch.pairs(), [(25, row_of(3)), (30, row_of(4)), (31, row_of(5))])
        self.batch.finish()
        self.assertEqual(self.disk.writes(), 15)
        wanted = self.wanted_rows([(18, row_of(9)), (25, row_of(3)), (30, row_of(4)), (31, row_of(5))])
        self.assertEqual(self.rows_outside_log(), wanted)

    def test_with_sixteen_rows_it_is_refused_and_keeps_them(self):
        for count in (16, 17, 23):
            self.setUp()
            pairs = new_pairs(range(17, 17 + count))
            self.write_all(pairs)
            with self.subTest(count=count):
                self.assertRaises(TooMuch, self.batch.finish)
                self.assertRaises(TooMuch, self.batch.finish)
                self.check_disk_as_it_was()
                self.assertEqual(self.batch.pairs(), pairs)
                self.assertEqual(self.batch.read(17), pairs[0][1])
                self.batch.write(17, row_of(5))
                self.assertEqual(self.batch.pairs(), [(17, row_of(5))] + pairs[1:])

    def test_too_much_ahead_of_stopped(self):
        self.write_all(new_pairs(range(17, 33)))
        self.disk.stop_after(0)
        self.assertRaises(TooMuch, self.batch.finish)
        self.check_disk_as_it_was()

    def test_behind_a_stop_another_batch_is_whole(self):
        pairs = new_pairs([17, 25, 39])
        for count in range(8):
            self.setUp()
            self.write_all(pairs)
            self.disk.stop_after(count)
            with self.subTest(count=count):
                self.assertRaises(Stopped, self.batch.finish)
                self.disk.go_on()
                come_back(self.disk)
                other = Batch(self.disk)
                wanted = self.wanted_rows(pairs if count > 3 else [])
                self.assertEqual([other.read(block) for block in [0] + list(range(17, 40))], wanted)
                other.write(25, row_of(6))
                other.finish()
                self.assertEqual(self.disk.read(25), row_of(6))

    def test_just_so_many_writes_are_enough(self):
        self.write_all(new_pairs([17, 25, 39]))
        self.disk.stop_after(8)
        self.batch.finish()
        self.assertEqual(self.rows_outside_log(), self.wanted_rows(new_pairs([17, 25, 39])))

    def test_batches_are_apart(self):
        other = Batch(self.disk)
        other.write(20, row_of(1))
        self.assertEqual(self.batch.pairs(), [])
        self.assertEqual(self.batch.read(20), self.rows[20])


class InterfaceTest(unittest.TestCase):
    def test_names_and_arguments(self):
        self.assertEqual(list(inspect.signature(Batch).parameters), ["disk"])
        batch = Batch(full_disk(24))
        for name, arguments in {"read": ["block"], "write": ["block", "row"], "pairs": [], "finish": []}.items():
            with self.subTest(name=name):
                self.assertEqual(list(inspect.signature(getattr(batch, name)).parameters), arguments)


if __name__ == "__main__":
    unittest.main()
