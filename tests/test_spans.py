import inspect
import random
import unittest

from blockkeep import spans
from blockkeep.batch import Batch
from blockkeep.errors import BadRow, NoRoom, OutOfPlace, TooLong
from blockkeep.layout import Layout
from blockkeep.maps import free_blocks
from blockkeep.nodes import FILE, FOLDER, node_of, put_node
from blockkeep.spans import MOST_SIZE, blocks_of, put_words, sized, used_by, words_of
from tests.helping import NO_WORDS, BatchCase, joined, mapped_disk

SIZES = [0, 1, 15, 16, 17, 63, 64, 65, 80, 319, 320]
SIZED_SIZES = [0, 1, 16, 17, 64, 65, 80, 320]
# About the bounds of the first blocks, of the fourth and fifth, and of the last one.
BOUNDS = [0, 1, 15, 16, 17, 31, 32, 33, 47, 48, 62, 63, 64, 65, 79, 80, 81, 111, 112, 113, 303, 304, 305, 319, 320]
NO_LISTS = [None, (), (1,), (1, 2, 3), "", "12", 5, True, {}, {1: 2}]
NODE = 2
LINKS = 3


def count_of_blocks(size):
    return len(range(0, size, 16))


def some_bounds(size):
    return sorted({at for at in BOUNDS + [size - 1, size] if 0 <= at <= size})


def counted(first, count):
    return list(range(first, first + count))


def mixed(blocks):
    """The same blocks, neither rising nor falling."""
    order = random.Random(5)
    other = list(blocks)
    order.shuffle(other)
    return other


class SpansTest(BatchCase):
    """A full disk with a node that was written by hand; each data block without a user is free, its row no noughts."""

    def set_up_with(self, kind, size, many=96, tables=2, behind=0):
        self.layout = Layout(many, tables)
        self.disk = mapped_disk(self.layout)
        self.kind = kind
        self.size = size
        self.data = list(range(self.layout.data_at, many))
        order = mixed(self.data)
        self.used = order[:count_of_blocks(size) + (1 if size > 64 else 0)]
        self.blocks = self.used[:4] + self.used[5:]
        self.words = counted(700000, size)
        for node in range(1, self.layout.most_node() + 1):
            self.write_node(node, [0] * 8)
        self.write_by_hand(behind)
        self.start_on(self.disk)

    def write_node(self, node, words):
        block = self.layout.nodes_at + node // 2
        row = self.disk.read(block)
        row[node % 2 * 8:node % 2 * 8 + 8] = words
        self.disk.write(block, row)

    def write_by_hand(self, behind):
        words = self.words + [behind] * (-self.size % 16)
        for place, block in enumerate(self.blocks):
            self.disk.write(block, words[16 * place:16 * place + 16])
        self.write_node(NODE, self.wanted_node(self.size, self.used))
        if len(self.used) > 4:
            self.disk.write(self.used[4], self.wanted_far(self.used))
        self.mark(self.used, 1)

    def mark(self, blocks, word):
        for block in blocks:
            row = self.disk.read(17 + block // 16)
            row[block % 16] = word
            self.disk.write(17 + block // 16, row)

    def wanted_node(self, size, used):
        return [self.kind, LINKS, size] + (used + [0] * 5)[:5]

    def wanted_far(self, used):
        return (used[5:] + [0] * 16)[:16]

    def check_rows(self, rows):
        """The batch has just these rows; nothing is written to the disk."""
        self.assertEqual(self.rows_of_batch(), rows)
        self.check_disk_as_it_was()

    def check_deed_refused(self, error, deed, *handed):
        self.check_refused(error, deed, self.batch, self.layout, NODE, *handed)

    def both_kinds_and_sizes(self):
        return [(kind, size) for kind in (FILE, FOLDER) for size in SIZES]


class BlocksOfTest(SpansTest):
    def test_each_size(self):
        for kind, size in self.both_kinds_and_sizes():
            self.set_up_with(kind, size)
            with self.subTest(kind=kind, size=size):
                told = blocks_of(self.batch, self.layout, NODE)
                self.assertIs(type(told), list)
                self.assertEqual(told, self.blocks)
                self.assertEqual(len(told), (size + 15) // 16)
                self.assertEqual(self.batch.pairs(), [])
                self.check_disk_as_it_was()

    def test_written_out(self):
        self.set_up_with(FILE, 0)
        self.batch.write(80, [31, 91, 30] + [0] * 13)
        put_node(self.batch, self.layout, NODE, [1, 1, 100, 40, 30, 95, 26, 80])
        self.assertEqual(blocks_of(self.batch, self.layout, NODE), [40, 30, 95, 26, 31, 91, 30])
        self.assertEqual(used_by(self.batch, self.layout, NODE), [40, 30, 95, 26, 80, 31, 91, 30])

    def test_a_new_list_each_time(self):
        for size in SIZES:
            for deed in (blocks_of, used_by):
                self.set_up_with(FILE, size)
                told = deed(self.batch, self.layout, NODE)
                wanted = list(told)
                self.assertIsNot(told, deed(self.batch, self.layout, NODE))
                told.append(1)
                told[0] = 5
                with self.subTest(size=size, deed=deed):
                    self.assertEqual(deed(self.batch, self.layout, NODE), wanted)
                    self.check_rows(self.rows)

    def test_told_ahead_it_stays(self):
        self.set_up_with(FILE, 80)
        told = blocks_of(self.batch, self.layout, NODE)
        used = used_by(self.batch, self.layout, NODE)
        sized(self.batch, self.layout, NODE, 320)
        sized(self.batch, self.layout, NODE, 1)
        self.assertEqual(told, self.blocks)
        self.assertEqual(used, self.used)

    def test_the_maps_are_not_looked_at(self):
        self.set_up_with(FILE, 320)
        for block in range(17, 23):
            self.batch.write(block, [0] * 16)
        self.assertEqual(blocks_of(self.batch, self.layout, NODE), self.blocks)
        self.assertEqual(used_by(self.batch, self.layout, NODE), self.used)
        self.assertEqual(words_of(self.batch, self.layout, NODE, 0, 320), self.words)
        put_words(self.batch, self.layout, NODE, 300, [5])
        self.assertEqual(words_of(self.batch, self.layout, NODE, 300, 1), [5])


class UsedByTest(SpansTest):
    def test_each_size(self):
        for kind, size in self.both_kinds_and_sizes():
            self.set_up_with(kind, size)
            with self.subTest(kind=kind, size=size):
                told = used_by(self.batch, self.layout, NODE)
                self.assertIs(type(told), list)
                self.assertEqual(told, self.used)
                self.assertEqual(len(told), (size + 15) // 16 + (1 if size > 64 else 0))
                self.assertEqual(self.batch.pairs(), [])
                self.check_disk_as_it_was()

    def test_far_stands_ahead_of_the_fifth_alone(self):
        self.set_up_with(FILE, 65)
        self.assertEqual(used_by(self.batch, self.layout, NODE)[4], node_of(self.batch, self.layout, NODE)[7])
        self.set_up_with(FILE, 64)
        self.assertEqual(used_by(self.batch, self.layout, NODE), blocks_of(self.batch, self.layout, NODE))


class WordsOfTest(SpansTest):
    def test_about_the_bounds(self):
        for kind, size in self.both_kinds_and_sizes():
            self.set_up_with(kind, size, behind=99)
            for begin in some_bounds(size):
                for end in some_bounds(size):
                    if begin <= end:
                        told = words_of(self.batch, self.layout, NODE, begin, end - begin)
                        self.assertEqual(told, self.words[begin:end], (kind, size, begin, end))
                        self.assertIs(type(told), list)
            self.assertEqual(self.batch.pairs(), [])
            self.check_disk_as_it_was()

    def test_none_at_each_place_also_at_the_end(self):
        for size in SIZES:
            self.set_up_with(FILE, size)
            for begin in some_bounds(size):
                self.assertEqual(words_of(self.batch, self.layout, NODE, begin, 0), [])

    def test_out_of_place(self):
        for kind, size in self.both_kinds_and_sizes():
            self.set_up_with(kind, size)
            wrong = [(-1, 0), (-1, 1), (-1, 2), (-1, size + 1), (-16, 16), (-1, -1), (0, -1), (size, -1), (1, -1),
                     (size + 1, -1), (size + 2, -2), (0, size + 1), (1, size), (size, 1), (size + 1, 0), (size + 1, 1),
                     (size + 16, 0), (0, 10 ** 9), (10 ** 9, 0), (10 ** 30, 1), (-(10 ** 30), 10 ** 30)]
            for begin, count in wrong:
                with self.subTest(size=size, begin=begin, count=count):
                    self.check_deed_refused(OutOfPlace, words_of, begin, count)

    def test_a_new_list_each_time(self):
        self.set_up_with(FILE, 80)
        for begin, count in ((0, 16), (0, 80), (3, 4), (15, 2), (80, 0)):
            told = words_of(self.batch, self.layout, NODE, begin, count)
            self.assertIsNot(told, words_of(self.batch, self.layout, NODE, begin, count))
            told.append(7)
            told[0] = 8
            self.assertEqual(words_of(self.batch, self.layout, NODE, begin, count), self.words[begin:begin + count])
        self.check_rows(self.rows)

    def test_told_ahead_they_stay(self):
        self.set_up_with(FILE, 80)
        told = words_of(self.batch, self.layout, NODE, 0, 80)
        put_words(self.batch, self.layout, NODE, 10, [1] * 20)
        sized(self.batch, self.layout, NODE, 0)
        self.assertEqual(told, self.words)


class PutWordsTest(SpansTest):
    def wanted_rows(self, begin, words):
        """The disk's rows, with the words one by one at their places."""
        rows = [list(row) for row in self.rows]
        for step, word in enumerate(words):
            rows[self.blocks[(begin + step) // 16]][(begin + step) % 16] = word
        return rows

    def check_put(self, begin, words):
        handed = list(words)
        self.assertIsNone(put_words(self.batch, self.layout, NODE, begin, handed))
        self.assertEqual(handed, words)
        self.assertEqual(self.rows_of_batch(), self.wanted_rows(begin, words))
        touched = {self.blocks[at // 16] for at in range(begin, begin + len(words))}
        self.assertEqual([block for block, row in self.batch.pairs()], sorted(touched))
        self.assertEqual(words_of(self.batch, self.layout, NODE, begin, len(words)), words)

    def test_about_the_bounds(self):
        for size in SIZES:
            # Words behind the size, which stay.
            self.set_up_with(FOLDER if size % 2 else FILE, size, behind=99)
            for begin in some_bounds(size):
                for end in some_bounds(size):
                    if begin <= end:
                        self.batch = Batch(self.disk)
                        with self.subTest(size=size, begin=begin, end=end):
                            self.check_put(begin, counted(800000, end - begin))
            self.check_disk_as_it_was()

    def test_none_changes_nothing(self):
        for size in SIZES:
            self.set_up_with(FILE, size)
            for begin in some_bounds(size):
                self.assertIsNone(put_words(self.batch, self.layout, NODE, begin, []))
            self.assertEqual(self.batch.pairs(), [])

    def test_the_least_and_the_greatest_word(self):
        self.set_up_with(FILE, 80)
        self.check_put(60, [0, 999999999] * 10)

    def test_again_over_the_same_words(self):
        self.set_up_with(FILE, 80)
        put_words(self.batch, self.layout, NODE, 0, [1] * 80)
        put_words(self.batch, self.layout, NODE, 15, [2, 3])
        put_words(self.batch, self.layout, NODE, 79, [4])
        self.assertEqual(words_of(self.batch, self.layout, NODE, 0, 80), [1] * 15 + [2, 3] + [1] * 62 + [4])

    def test_the_list_handed_in_may_be_changed(self):
        self.set_up_with(FILE, 80)
        for begin, count in ((0, 16), (10, 1), (10, 60), (16, 64)):
            words = counted(5, count)
            put_words(self.batch, self.layout, NODE, begin, words)
            words[0] = 77
            words.append(78)
            self.assertEqual(words_of(self.batch, self.layout, NODE, begin, count), counted(5, count))
            words.clear()
            self.assertEqual(words_of(self.batch, self.layout, NODE, begin, count), counted(5, count))

    def test_out_of_place(self):
        for kind, size in self.both_kinds_and_sizes():
            self.set_up_with(kind, size)
            wrong = [(-1, 0), (-1, 1), (-1, 2), (-16, 16), (-1, size + 1), (size, 1), (size + 1, 0), (size + 1, 1),
                     (0, size + 1), (1, size), (10 ** 9, 0), (10 ** 30, 1), (-(10 ** 30), 3), (0, 1000)]
            for begin, count in wrong:
                with self.subTest(size=size, begin=begin, count=count):
                    self.check_deed_refused(OutOfPlace, put_words, begin, [1] * count)
                    # Ahead of the refusal of what is no word.
                    for word in (-1, True, "1", None):
                        self.check_deed_refused(OutOfPlace, put_words, begin, [word] * max(count, 1))

    def test_out_of_place_of_what_is_no_list(self):
        for size in SIZES:
            self.set_up_with(FILE, size)
            for thing in NO_LISTS:
                for begin in (-1, -20, size + 1, size + 17, 10 ** 9):
                    with self.subTest(size=size, begin=begin, thing=thing):
                        self.check_deed_refused(OutOfPlace, put_words, begin, thing)

    def test_bad_row_of_what_is_no_list(self):
        for size in SIZES:
            self.set_up_with(FILE, size)
            # A tuple or a text beyond the size is no list either: its begin alone counts.
            for thing in NO_LISTS + [(1,) * (size + 1), "1" * (size + 1)]:
                for begin in some_bounds(size):
                    with self.subTest(size=size, begin=begin, thing=thing):
                        self.check_deed_refused(BadRow, put_words, begin, thing)

    def test_bad_row_for_one_word_at_any_place(self):
        self.set_up_with(FILE, 80)
        for count in (1, 2, 16, 40):
            for at in range(count):
                for place, word in enumerate(NO_WORDS):
                    words = counted(1, count)
                    words[at] = word
                    handed = list(words)
                    with self.subTest(count=count, at=at, place=place):
                        self.check_deed_refused(BadRow, put_words, 7, handed)
                        self.assertEqual(handed, words)

    def test_a_refusal_keeps_what_the_batch_has(self):
        self.set_up_with(FILE, 80)
        put_words(self.batch, self.layout, NODE, 0, [9] * 20)
        rows = self.rows_of_batch()
        self.check_deed_refused(OutOfPlace, put_words, 79, [1, 2])
        self.check_deed_refused(BadRow, put_words, 0, [1, 2, -1])
        self.assertEqual(self.rows_of_batch(), rows)


class SizedTest(SpansTest):
    def wanted_used(self, used, size):
        """The blocks behind the deed, with far, and the free ones, reckoned one by one."""
        free = [block for block in self.data if block not in used]
        wanted = list(used)
        places = count_of_blocks(size) + (1 if size > 64 else 0)
        while len(wanted) > places:
            wanted.pop()
        while len(wanted) < places:
            wanted.append(free.pop(0))
        return wanted

    def check_sized(self, size, rows, used, words):
        """From these rows of the batch, with these blocks, to that size; tells the blocks and words behind it."""
        self.assertIsNone(sized(self.batch, self.layout, NODE, size))
        now = self.wanted_used(used, size)
        words = (words + [0] * size)[:size]
        rows = [list(row) for row in rows]
        self.put_wanted(rows, size, used, now, words)
        self.assertEqual(self.rows_of_batch(), rows)
        self.check_told(size, now, words)
        return now, words

    def put_wanted(self, rows, size, used, now, words):
        for block in set(used) ^ set(now):
            rows[17 + block // 16][block % 16] = 1 if block in now else 0
        rows[self.layout.nodes_at + NODE // 2][NODE % 2 * 8:NODE % 2 * 8 + 8] = self.wanted_node(size, now)
        if len(now) > 4:
            rows[now[4]] = self.wanted_far(now)
        for place, block in enumerate(now[:4] + now[5:]):
            rows[block] = (words[16 * place:16 * place + 16] + [0] * 16)[:16]

    def check_told(self, size, used, words):
        self.assertEqual(blocks_of(self.batch, self.layout, NODE), used[:4] + used[5:])
        self.assertEqual(used_by(self.batch, self.layout, NODE), used)
        self.assertEqual(words_of(self.batch, self.layout, NODE, 0, size), words)
        self.assertEqual(node_of(self.batch, self.layout, NODE), self.wanted_node(size, used))
        self.assertEqual(free_blocks(self.batch, self.layout), [block for block in self.data if block not in used])

    def test_from_each_to_each(self):
        for kind in (FILE, FOLDER):
            for before in SIZED_SIZES:
                for size in SIZED_SIZES + [15, 63, 100, 319]:
                    self.set_up_with(kind, before)
                    with self.subTest(kind=kind, before=before, size=size):
                        self.check_sized(size, self.rows, self.used, self.words)
                        self.check_disk_as_it_was()

    def test_from_each_over_another_to_each(self):
        for before in SIZED_SIZES:
            for between in SIZED_SIZES + [7, 70]:
                for size in SIZED_SIZES:
                    self.set_up_with(FILE, before)
                    with self.subTest(before=before, between=between, size=size):
                        used, words = self.check_sized(between, self.rows, self.used, self.words)
                        self.check_sized(size, self.rows_of_batch(), used, words)

    def test_words_that_come_are_noughts_behind_a_put(self):
        for less in (0, 1, 15, 16, 17, 63, 64, 65, 79):
            self.set_up_with(FILE, 80)
            sized(self.batch, self.layout, NODE, less)
            sized(self.batch, self.layout, NODE, 80)
            with self.subTest(less=less):
                wanted = self.words[:less] + [0] * (80 - less)
                self.assertEqual(words_of(self.batch, self.layout, NODE, 0, 80), wanted)

    def test_old_words_behind_the_size_never_come(self):
        for before in (1, 15, 17, 63, 65, 319):
            for size in (before, before + 1, 320):
                self.set_up_with(FILE, before, behind=99)
                sized(self.batch, self.layout, NODE, size)
                with self.subTest(before=before, size=size):
                    rows = joined([self.batch.read(block) for block in blocks_of(self.batch, self.layout, NODE)])
                    self.assertEqual(rows, self.words + [0] * (len(rows) - before))

    def test_the_rows_of_blocks_that_go_are_not_written(self):
        self.set_up_with(FILE, 320)
        sized(self.batch, self.layout, NODE, 0)
        # The maps' rows from that of the data on, and the node's.
        self.assertEqual([block for block, row in self.batch.pairs()], [18, 19, 20, 21, 22, 24])

    def test_word_by_word_upwards_and_downwards(self):
        self.set_up_with(FOLDER, 0)
        used, words, rows = [], [], self.rows
        for size in list(range(1, 321)) + list(range(319, -1, -1)):
            used, words = self.check_sized(size, rows, used, words)
            if size > 0:
                put_words(self.batch, self.layout, NODE, size - 1, [size])
                words[size - 1] = size
            rows = self.rows_of_batch()

    def test_blocks_are_taken_each_the_least_free_one(self):
        self.set_up_with(FILE, 0, many=40)
        # Data blocks 22 to 39; those of 23, 24 and 27 are used by others.
        self.mark([23, 24, 27], 1)
        self.start_on(self.disk)
        sized(self.batch, self.layout, NODE, 80)
        self.assertEqual(used_by(self.batch, self.layout, NODE), [22, 25, 26, 28, 29, 30])
        self.assertEqual(node_of(self.batch, self.layout, NODE), [FILE, LINKS, 80, 22, 25, 26, 28, 29])
        self.assertEqual(self.batch.read(29), [30] + [0] * 15)

    def test_far_comes_and_goes_with_the_fifth(self):
        self.set_up_with(FILE, 0)
        sized(self.batch, self.layout, NODE, 64)
        self.assertEqual(node_of(self.batch, self.layout, NODE), [FILE, LINKS, 64, 25, 26, 27, 28, 0])
        sized(self.batch, self.layout, NODE, 65)
        self.assertEqual(node_of(self.batch, self.layout, NODE), [FILE, LINKS, 65, 25, 26, 27, 28, 29])
        self.assertEqual(self.batch.read(29), [30] + [0] * 15)
        sized(self.batch, self.layout, NODE, 64)
        self.assertEqual(free_blocks(self.batch, self.layout), list(range(29, 96)))

    def test_a_size_that_stays(self):
        for size in SIZES:
            self.set_up_with(FOLDER, size)
            with self.subTest(size=size):
                self.check_sized(size, self.rows, self.used, self.words)

    def test_out_of_place_and_too_long(self):
        for kind, before in self.both_kinds_and_sizes():
            self.set_up_with(kind, before)
            with self.subTest(kind=kind, before=before):
                for size in (-1, -16, -320, -(10 ** 30)):
                    self.check_deed_refused(OutOfPlace, sized, size)
                for size in (321, 322, 336, 1000, 10 ** 9, 10 ** 30):
                    self.check_deed_refused(TooLong, sized, size)

    def test_too_long_ahead_of_no_room(self):
        self.set_up_with(FILE, 0, many=24)
        self.check_deed_refused(TooLong, sized, 321)

    def leave_free(self, count):
        """So many of the free blocks stay free, here and there; the others are told as used."""
        free = free_blocks(self.batch, self.layout)
        self.mark(mixed(free)[count:], 1)
        self.start_on(self.disk)

    def test_no_room_just_where_more_are_wanted_than_free(self):
        for before in SIZED_SIZES:
            for size in SIZED_SIZES:
                self.set_up_with(FILE, before)
                wanted = len(self.wanted_used(self.used, size)) - len(self.used)
                with self.subTest(before=before, size=size):
                    self.leave_free(max(wanted, 0))
                    sized(self.batch, self.layout, NODE, size)
                    self.assertEqual(words_of(self.batch, self.layout, NODE, 0, size),
                                     (self.words + [0] * size)[:size])
                    self.assertEqual(len(free_blocks(self.batch, self.layout)), max(-wanted, 0))
                    if wanted > 0:
                        self.set_up_with(FILE, before)
                        self.leave_free(wanted - 1)
                        self.assertRaises(NoRoom, sized, self.batch, self.layout, NODE, size)
                        self.assertEqual(self.disk.writes(), 0)

    def test_no_room_for_the_fifth_beside_far(self):
        # Blocks 22 to 27 for data: four, far and the fifth; with one less far has room, but not the fifth.
        for many, wanted in ((28, None), (27, NoRoom), (26, NoRoom)):
            self.set_up_with(FILE, 0, many=many, tables=3)
            with self.subTest(many=many):
                if wanted is None:
                    sized(self.batch, self.layout, NODE, 80)
                    self.assertEqual(used_by(self.batch, self.layout, NODE), [22, 23, 24, 25, 26, 27])
                    self.assertRaises(NoRoom, sized, self.batch, self.layout, NODE, 81)
                else:
                    self.assertRaises(NoRoom, sized, self.batch, self.layout, NODE, 65)

    def test_nothing_is_wanted_on_a_full_disk(self):
        self.set_up_with(FILE, 65)
        self.leave_free(0)
        for size in (66, 80, 65, 64, 48, 64, 33, 0):
            sized(self.batch, self.layout, NODE, size)
            self.assertEqual(len(blocks_of(self.batch, self.layout, NODE)), count_of_blocks(size))


class FinishedTest(SpansTest):
    def test_behind_the_finish_another_batch_tells_the_same(self):
        self.set_up_with(FILE, 20)
        sized(self.batch, self.layout, NODE, 70)
        put_words(self.batch, self.layout, NODE, 10, counted(1, 60))
        self.check_disk_as_it_was()
        words = words_of(self.batch, self.layout, NODE, 0, 70)
        used = used_by(self.batch, self.layout, NODE)
        rows = self.rows_of_batch()
        self.batch.finish()
        other = Batch(self.disk)
        self.assertEqual(self.disk.read(1), [0] * 16)
        self.assertEqual(words, self.words[:10] + counted(1, 60))
        self.assertEqual(words_of(other, self.layout, NODE, 0, 70), words)
        self.assertEqual(used_by(other, self.layout, NODE), used)
        self.assertEqual([other.read(block) for block in range(17, 96)], rows[17:])
        sized(other, self.layout, NODE, 9)
        self.assertEqual(words_of(other, self.layout, NODE, 0, 9), self.words[:9])
        self.assertEqual(words_of(self.batch, self.layout, NODE, 0, 70), words)


class SeveralTest(unittest.TestCase):
    """Many deeds over several nodes, beside plain lists that do the same."""

    def start(self, many, tables):
        self.layout = Layout(many, tables)
        self.disk = mapped_disk(self.layout)
        for block in range(self.layout.nodes_at, self.layout.data_at):
            self.disk.write(block, [1, 1, 0, 0, 0, 0, 0, 0, 2, 5, 0, 0, 0, 0, 0, 0])
        self.batch = Batch(self.disk)
        self.kept = {node: [] for node in range(1, 2 * tables)}

    def check_all(self):
        used = []
        for node, words in self.kept.items():
            told = node_of(self.batch, self.layout, node)
            self.assertEqual(told[:3], ([1, 1], [2, 5])[node % 2] + [len(words)])
            self.assertEqual(words_of(self.batch, self.layout, node, 0, len(words)), words)
            used.extend(used_by(self.batch, self.layout, node))
            rows = joined([self.batch.read(block) for block in blocks_of(self.batch, self.layout, node)])
            self.assertEqual(rows, words + [0] * (-len(words) % 16))
        data = list(range(self.layout.data_at, self.layout.many))
        self.assertEqual(sorted(used + free_blocks(self.batch, self.layout)), data)

    def free_count(self):
        used = sum(count_of_blocks(len(words)) + (1 if len(words) > 64 else 0) for words in self.kept.values())
        return self.layout.many - self.layout.data_at - used

    def wanted_more(self, node, size):
        places = [count_of_blocks(one) + (1 if one > 64 else 0) for one in (len(self.kept[node]), size)]
        return places[1] - places[0]

    def play_sized(self, node, size):
        if self.wanted_more(node, size) > self.free_count():
            # Behind this refusal a batch is not promised, so it is asked of one that is not used on.
            with self.assertRaises(NoRoom):
                sized(Batch(self.disk), self.layout, node, size)
            return
        sized(self.batch, self.layout, node, size)
        self.kept[node] = (self.kept[node] + [0] * size)[:size]

    def play_put(self, node, begin, words):
        if begin + len(words) > len(self.kept[node]):
            with self.assertRaises(OutOfPlace):
                put_words(self.batch, self.layout, node, begin, words)
            return
        put_words(self.batch, self.layout, node, begin, words)
        self.kept[node][begin:begin + len(words)] = words

    def play(self, chance, node):
        before = len(self.kept[node])
        if chance.random() < 0.6:
            # At most 64 words more at a time, so that the batch has room in the log.
            self.play_sized(node, min(chance.choice(SIZES + [before + 3, before + 64]), before + 64, 320))
        else:
            begin = chance.randrange(before + 1)
            count = chance.randrange(min(66, before - begin + 2))
            self.play_put(node, begin, [chance.randrange(10 ** 9) for step in range(count)])

    def test_many_deeds(self):
        for many, tables, seed in ((96, 2, 1), (60, 3, 2), (96, 8, 3), (32, 1, 4), (40, 2, 5)):
            self.start(many, tables)
            chance = random.Random(seed)
            for step in range(150):
                node = chance.randrange(1, 2 * tables)
                with self.subTest(many=many, step=step):
                    self.play(chance, node)
                    self.check_all()
                    self.batch.finish()
                    if step % 10 == 0:
                        self.batch = Batch(self.disk)
                        self.check_all()

    def test_blocks_of_one_come_to_another_without_their_words(self):
        self.start(32, 2)
        self.play_sized(1, 64)
        self.play_put(1, 0, counted(5, 64))
        self.play_sized(1, 0)
        self.play_sized(2, 64)
        self.check_all()
        self.assertEqual(self.kept[2], [0] * 64)


class InterfaceTest(unittest.TestCase):
    def test_most_size(self):
        self.assertEqual(MOST_SIZE, 320)
        self.assertIs(type(MOST_SIZE), int)

    def test_names_and_arguments(self):
        wanted = {"blocks_of": [], "used_by": [], "words_of": ["begin", "count"], "put_words": ["begin", "words"],
                  "sized": ["size"]}
        for name, more in wanted.items():
            with self.subTest(name=name):
                arguments = list(inspect.signature(getattr(spans, name)).parameters)
                self.assertEqual(arguments, ["batch", "layout", "node"] + more)


if __name__ == "__main__":
    unittest.main()
