import inspect
import unittest

from blockkeep import maps
from blockkeep.batch import Batch
from blockkeep.errors import NoBlock, NoRoom
from blockkeep.layout import Layout, head_row
from blockkeep.maps import free_blocks, give, is_free, new_maps, take
from tests.helping import NEVER_BLOCKS, all_rows, joined, mapped_disk, row_of

# Counts of blocks that go by sixteen, one more, one less, and the least and the greatest; few data and many.
SOME_COUNTS = [(24, 1), (24, 4), (28, 8), (31, 1), (32, 2), (33, 3), (40, 8), (47, 1), (48, 1), (49, 2), (64, 5),
               (65, 5), (80, 8), (81, 1), (95, 8), (96, 1), (96, 8)]


def all_counts():
    # A disk of 28 blocks has room for all counts of blocks of nodes.
    return [(many, tables) for many in range(28, 97) for tables in range(1, 9)] + [(24, 1), (24, 4), (25, 5), (27, 7)]


def wanted_words(layout):
    words = []
    for block in range(16 * (layout.nodes_at - 17)):
        words.append(0 if layout.data_at <= block < layout.many else 1)
    return words


class NewMapsTest(unittest.TestCase):
    def test_all_counts(self):
        for many, tables in all_counts():
            layout = Layout(many, tables)
            told = new_maps(layout)
            with self.subTest(many=many, tables=tables):
                self.assertEqual([len(row) for row in told], [16] * (layout.nodes_at - layout.maps_at))
                self.assertEqual(joined(told), wanted_words(layout))

    def test_written_out(self):
        self.assertEqual(new_maps(Layout(24, 1)), [[1] * 16, [1, 1, 1, 1, 0, 0, 0, 0, 1, 1, 1, 1, 1, 1, 1, 1]])
        self.assertEqual(new_maps(Layout(24, 4)), [[1] * 16, [1, 1, 1, 1, 1, 1, 1, 0, 1, 1, 1, 1, 1, 1, 1, 1]])
        self.assertEqual(new_maps(Layout(32, 1)), [[1] * 16, [1] * 4 + [0] * 12])
        self.assertEqual(new_maps(Layout(33, 1)), [[1] * 16, [1] * 5 + [0] * 11, [0] + [1] * 15])
        self.assertEqual(new_maps(Layout(47, 8)), [[1] * 16, [1] * 12 + [0] * 4, [0] * 15 + [1]])
        self.assertEqual(new_maps(Layout(96, 8)), [[1] * 16, [1] * 15 + [0]] + [[0] * 16] * 4)

    def test_new_lists_each_time(self):
        layout = Layout(96, 1)
        told = new_maps(layout)
        self.assertIs(type(told), list)
        again = new_maps(layout)
        self.assertIsNot(told, again)
        for place, row in enumerate(told):
            self.assertIs(type(row), list)
            self.assertIsNot(row, again[place])
            row[3] = 9
        # Rows that look alike are no single list either.
        self.assertEqual([row.count(9) for row in told], [1] * 6)
        told.clear()
        self.assertEqual(joined(again), wanted_words(layout))
        self.assertEqual(joined(new_maps(layout)), wanted_words(layout))


class MapsTest(unittest.TestCase):
    def set_up_with(self, many, tables):
        self.layout = Layout(many, tables)
        self.disk = mapped_disk(self.layout)
        self.rows = all_rows(self.disk)
        self.batch = Batch(self.disk)

    def setUp(self):
        self.set_up_with(49, 3)

    def data_blocks(self):
        return list(range(self.layout.data_at, self.layout.many))

    def map_words(self):
        return joined([self.batch.read(block) for block in range(self.layout.maps_at, self.layout.nodes_at)])

    def check_used(self, used):
        """Of the data blocks just these are used; the maps have no other words, and the layout and the disk stay."""
        words = wanted_words(self.layout)
        for block in used:
            words[block] = 1
        self.assertEqual(self.map_words(), words)
        self.assertEqual(free_blocks(self.batch, self.layout), [at for at in self.data_blocks() if at not in used])
        self.assertEqual(head_row(self.layout), head_row(Layout(self.layout.many, self.layout.tables)))
        self.assertEqual(all_rows(self.disk), self.rows)
        self.assertEqual(self.disk.writes(), 0)
        self.check_other_rows_stay()

    def check_other_rows_stay(self):
        for block in list(range(17)) + list(range(self.layout.nodes_at, self.layout.many)):
            self.assertEqual(self.batch.read(block), self.rows[block])
        self.assertEqual([block for block, row in self.batch.pairs() if block >= self.layout.nodes_at], [])


class IsFreeTest(MapsTest):
    def test_each_block(self):
        for many, tables in SOME_COUNTS:
            self.set_up_with(many, tables)
            for block in range(many):
                with self.subTest(many=many, tables=tables, block=block):
                    self.assertIs(is_free(self.batch, self.layout, block), block >= self.layout.data_at)
            self.assertEqual(self.batch.pairs(), [])
            self.check_used([])

    def test_one_used_block_at_each_place(self):
        for used in self.data_blocks():
            self.setUp()
            row = self.batch.read(17 + used // 16)
            row[used % 16] = 1
            self.batch.write(17 + used // 16, row)
            with self.subTest(used=used):
                for block in self.data_blocks():
                    self.assertIs(is_free(self.batch, self.layout, block), block != used)

    def test_what_is_no_block(self):
        for many, tables in SOME_COUNTS:
            self.set_up_with(many, tables)
            for place, block in enumerate(NEVER_BLOCKS + list(range(many, 98))):
                with self.subTest(many=many, place=place):
                    self.assertRaises(NoBlock, is_free, self.batch, self.layout, block)
            self.check_used([])

    def test_no_block_where_the_maps_have_a_word_there(self):
        self.set_up_with(24, 1)
        self.batch.write(18, row_of(0))
        for block in (24, 25, 31, 32):
            self.assertRaises(NoBlock, is_free, self.batch, self.layout, block)
        self.assertIs(is_free(self.batch, self.layout, 23), True)

    def test_the_maps_of_the_batch_are_asked(self):
        self.batch.write(18, row_of(1))
        self.assertIs(is_free(self.batch, self.layout, 31), False)
        self.assertIs(is_free(self.batch, self.layout, 32), True)
        self.assertIs(is_free(Batch(self.disk), self.layout, 31), True)


class FreeBlocksTest(MapsTest):
    def test_all_data_blocks_at_first(self):
        for many, tables in SOME_COUNTS:
            self.set_up_with(many, tables)
            with self.subTest(many=many, tables=tables):
                self.assertEqual(free_blocks(self.batch, self.layout), self.data_blocks())
                self.assertEqual(self.batch.pairs(), [])

    def test_a_new_list(self):
        told = free_blocks(self.batch, self.layout)
        self.assertIs(type(told), list)
        self.assertIsNot(told, free_blocks(self.batch, self.layout))
        told.reverse()
        told.pop()
        self.check_used([])

    def test_told_ahead_it_stays(self):
        told = free_blocks(self.batch, self.layout)
        take(self.batch, self.layout)
        self.assertEqual(told, self.data_blocks())

    def test_rising_with_used_ones_between(self):
        self.set_up_with(33, 1)
        self.batch.write(18, [1] * 5 + [0, 1, 0, 1, 0, 1, 0, 1, 0, 1, 0])
        self.assertEqual(free_blocks(self.batch, self.layout), [21, 23, 25, 27, 29, 31, 32])

    def test_words_behind_the_last_blocks_tell_of_none(self):
        self.set_up_with(33, 1)
        self.batch.write(19, row_of(0))
        self.assertEqual(free_blocks(self.batch, self.layout), self.data_blocks())

    def test_none(self):
        self.set_up_with(24, 4)
        take(self.batch, self.layout)
        self.assertEqual(free_blocks(self.batch, self.layout), [])


class TakeTest(MapsTest):
    def test_the_least_one_again_and_again_until_no_room(self):
        for many, tables in SOME_COUNTS:
            self.set_up_with(many, tables)
            used = []
            for block in self.data_blocks():
                with self.subTest(many=many, tables=tables, block=block):
                    told = take(self.batch, self.layout)
                    used.append(block)
                    self.assertEqual(told, block)
                    self.assertIs(type(told), int)
                    self.assertIs(is_free(self.batch, self.layout, block), False)
                    self.check_used(used)
            with self.subTest(many=many, tables=tables):
                pairs = self.batch.pairs()
                self.assertRaises(NoRoom, take, self.batch, self.layout)
                self.assertRaises(NoRoom, take, self.batch, self.layout)
                self.assertEqual(self.batch.pairs(), pairs)
                self.check_used(used)

    def test_words_behind_the_last_blocks_are_never_taken(self):
        self.set_up_with(24, 1)
        self.batch.write(18, [1] * 8 + [0] * 8)
        self.assertRaises(NoRoom, take, self.batch, self.layout)

    def test_only_the_maps_row_comes_into_the_batch(self):
        take(self.batch, self.layout)
        self.assertEqual([block for block, row in self.batch.pairs()], [18])

    def test_the_row_of_the_block_stays_in_the_batch_too(self):
        self.batch.write(24, row_of(5))
        self.assertEqual(take(self.batch, self.layout), 24)
        self.assertEqual(self.batch.read(24), row_of(5))


class GiveTest(MapsTest):
    def take_all(self):
        return [take(self.batch, self.layout) for block in self.data_blocks()]

    def test_each_one_of_all(self):
        for many, tables in SOME_COUNTS:
            self.set_up_with(many, tables)
            used = self.take_all()
            for block in self.data_blocks():
                with self.subTest(many=many, tables=tables, block=block):
                    self.assertIsNone(give(self.batch, self.layout, block))
                    self.assertIs(is_free(self.batch, self.layout, block), True)
                    self.check_used([other for other in used if other != block])
                    self.assertEqual(take(self.batch, self.layout), block)
                    self.check_used(used)

    def test_given_it_is_the_least_again(self):
        for step in range(12):
            take(self.batch, self.layout)
        for block in (33, 26, 24):
            give(self.batch, self.layout, block)
        self.assertEqual([take(self.batch, self.layout) for step in range(4)], [24, 26, 33, 36])

    def test_all_given_it_is_as_at_first(self):
        used = self.take_all()
        for block in reversed(used):
            give(self.batch, self.layout, block)
        self.check_used([])
        self.assertEqual([row for block, row in self.batch.pairs()],
                         [row for row in new_maps(self.layout) if 0 in row])

    def check_refused(self, block, used):
        pairs = self.batch.pairs()
        self.assertRaises(NoBlock, give, self.batch, self.layout, block)
        self.assertEqual(self.batch.pairs(), pairs)
        self.check_used(used)

    def test_what_is_free(self):
        for block in self.data_blocks():
            with self.subTest(block=block):
                self.check_refused(block, [])

    def test_what_was_given_already(self):
        used = self.take_all()
        give(self.batch, self.layout, 30)
        self.check_refused(30, [block for block in used if block != 30])

    def test_what_lies_ahead_of_the_data(self):
        for many, tables in SOME_COUNTS:
            self.set_up_with(many, tables)
            used = [take(self.batch, self.layout)]
            for block in range(self.layout.data_at):
                with self.subTest(many=many, tables=tables, block=block):
                    self.check_refused(block, used)

    def test_what_is_no_block(self):
        for many, tables in SOME_COUNTS:
            self.set_up_with(many, tables)
            used = self.take_all()
            for place, block in enumerate(NEVER_BLOCKS + list(range(many, 98)) + ["24", [24], 24.0, str(many - 1)]):
                with self.subTest(many=many, place=place):
                    self.check_refused(block, used)

    def test_the_row_of_the_block_stays_in_the_batch_too(self):
        block = take(self.batch, self.layout)
        self.batch.write(block, row_of(5))
        give(self.batch, self.layout, block)
        self.assertEqual(self.batch.read(block), row_of(5))


class FinishedTest(MapsTest):
    def test_behind_the_finish_another_batch_tells_the_same(self):
        for step in range(12):
            take(self.batch, self.layout)
        for block in (25, 34):
            give(self.batch, self.layout, block)
        used = [24] + list(range(26, 34)) + [35]
        self.check_used(used)
        free = free_blocks(self.batch, self.layout)
        self.batch.finish()
        self.assertEqual(self.disk.writes(), 6)
        other = Batch(self.disk)
        self.assertEqual(free_blocks(other, self.layout), free)
        self.assertEqual(free_blocks(self.batch, self.layout), free)
        for block in range(49):
            self.assertIs(is_free(other, self.layout, block), block >= 24 and block not in used)
        for block in range(self.layout.nodes_at, 49):
            self.assertEqual(self.disk.read(block), self.rows[block])
        self.assertEqual(take(other, self.layout), 25)
        self.assertRaises(NoBlock, give, other, self.layout, 34)
        give(other, self.layout, 35)
        self.assertEqual(free_blocks(other, self.layout), [34] + list(range(35, 49)))

    def test_without_the_finish_another_batch_tells_of_none(self):
        take(self.batch, self.layout)
        self.assertEqual(free_blocks(Batch(self.disk), self.layout), self.data_blocks())


class InterfaceTest(unittest.TestCase):
    def test_names_and_arguments(self):
        wanted = {"new_maps": ["layout"], "is_free": ["batch", "layout", "block"], "free_blocks": ["batch", "layout"],
                  "take": ["batch", "layout"], "give": ["batch", "layout", "block"]}
        for name, arguments in wanted.items():
            with self.subTest(name=name):
                self.assertEqual(list(inspect.signature(getattr(maps, name)).parameters), arguments)


if __name__ == "__main__":
    unittest.main()
