import inspect
import itertools
import unittest

from blockkeep import journal
from blockkeep.disk import Disk
from blockkeep.errors import BadLog, BadRow, NoBlock, Stopped, TooMuch
from blockkeep.journal import MOST_HOMES, come_back, commit
from tests.helping import NEVER_BLOCKS, NO_ROWS, all_rows, full_disk, new_pairs, row_of

# Counts of blocks with homes on them: the first and the last one, side by side and far apart.
GOOD_HOMES = [
    (24, [17]), (24, [23]), (96, [95]), (40, [30]),
    (24, [17, 18]), (24, [17, 23]), (96, [17, 95]), (96, [94, 95]),
    (24, [17, 18, 19, 20, 21, 22, 23]),
    (32, list(range(17, 32))), (96, list(range(81, 96))), (96, list(range(20, 95, 5))),
]


def head_of(homes):
    return [len(homes)] + list(homes) + [0] * (15 - len(homes))


def log_writes(pairs):
    return [(2 + place, row) for place, (home, row) in enumerate(pairs)] + [(1, head_of([home for home, row in pairs]))]


def home_writes(pairs):
    return list(pairs) + [(1, row_of(0))]


def commit_writes(pairs):
    return log_writes(pairs) + home_writes(pairs) if pairs else []


def behind(rows, writes):
    rows = [list(row) for row in rows]
    for block, row in writes:
        rows[block] = list(row)
    return rows


def outside_log(rows):
    return rows[:1] + rows[17:]


class Watched(Disk):
    """A disk that notes which writes were asked for, whether they were done or not."""

    def __init__(self, many):
        super().__init__(many)
        self.asked = []

    def write(self, block, row):
        self.asked.append((block, list(row)))
        super().write(block, row)


class CommitTest(unittest.TestCase):
    def test_the_greatest_count(self):
        self.assertIs(type(MOST_HOMES), int)
        self.assertEqual(MOST_HOMES, 15)

    def test_all_blocks_behind_it(self):
        for many, homes in GOOD_HOMES:
            disk = full_disk(many)
            rows = all_rows(disk)
            pairs = new_pairs(homes)
            with self.subTest(many=many, homes=homes):
                self.assertIsNone(commit(disk, pairs))
                self.assertEqual(all_rows(disk), behind(rows, commit_writes(pairs)))
                self.assertEqual(disk.writes(), 2 * len(homes) + 2)

    def test_each_write_in_its_order(self):
        for many, homes in GOOD_HOMES:
            disk = Watched(many)
            pairs = new_pairs(homes)
            commit(disk, pairs)
            with self.subTest(many=many, homes=homes):
                self.assertEqual(disk.asked, commit_writes(pairs))

    def test_two_pairs_written_out(self):
        disk = Watched(24)
        commit(disk, [(18, row_of(5)), (23, row_of(6))])
        self.assertEqual(disk.asked, [
            (2, row_of(5)), (3, row_of(6)), (1, [2, 18, 23, 0, 0, 0, 0, 0, 0, 0, 0, 0, 0, 0, 0, 0]),
            (18, row_of(5)), (23, row_of(6)), (1, row_of(0)),
        ])

    def test_fifteen_pairs_written_out(self):
        disk = Watched(32)
        commit(disk, [(home, row_of(home)) for home in range(17, 32)])
        self.assertEqual([block for block, row in disk.asked],
                         list(range(2, 17)) + [1] + list(range(17, 32)) + [1])
        self.assertEqual(disk.asked[15][1], [15, 17, 18, 19, 20, 21, 22, 23, 24, 25, 26, 27, 28, 29, 30, 31])
        self.assertEqual(disk.writes(), 32)

    def test_let_be_so_many_writes(self):
        for many, homes in GOOD_HOMES:
            pairs = new_pairs(homes)
            writes = commit_writes(pairs)
            for count in range(len(writes)):
                disk = full_disk(many)
                rows = all_rows(disk)
                disk.stop_after(count)
                with self.subTest(many=many, homes=homes, count=count):
                    self.assertRaises(Stopped, commit, disk, pairs)
                    self.assertEqual(all_rows(disk), behind(rows, writes[:count]))
                    self.assertEqual(disk.writes(), count)
                    self.assertEqual(pairs, new_pairs(homes))

    def test_just_so_many_writes_are_enough(self):
        for many, homes in GOOD_HOMES:
            pairs = new_pairs(homes)
            disk = full_disk(many)
            rows = all_rows(disk)
            disk.stop_after(2 * len(homes) + 2)
            with self.subTest(many=many, homes=homes):
                self.assertIsNone(commit(disk, pairs))
                self.assertEqual(all_rows(disk), behind(rows, commit_writes(pairs)))
                self.assertRaises(Stopped, disk.write, 0, row_of(1))

    def test_no_pair_no_write(self):
        disk = full_disk(24)
        rows = all_rows(disk)
        self.assertIsNone(commit(disk, []))
        disk.stop_after(0)
        self.assertIsNone(commit(disk, []))
        self.assertEqual(disk.writes(), 0)
        self.assertEqual(all_rows(disk), rows)

    def test_rows_that_change_nothing_are_written_too(self):
        disk = full_disk(24)
        rows = all_rows(disk)
        pairs = [(17, rows[17]), (20, rows[20])]
        commit(disk, pairs)
        self.assertEqual(disk.writes(), 6)
        self.assertEqual(outside_log(all_rows(disk)), outside_log(rows))

    def test_one_commit_behind_another(self):
        disk = full_disk(40)
        rows = all_rows(disk)
        first = new_pairs([17, 20, 39])
        second = [(20, row_of(1)), (21, row_of(2))]
        commit(disk, first)
        commit(disk, second)
        self.assertEqual(all_rows(disk), behind(behind(rows, commit_writes(first)), commit_writes(second)))
        self.assertEqual(disk.writes(), 14)

    def test_the_same_row_for_several_homes(self):
        disk = full_disk(24)
        row = row_of(8)
        commit(disk, [(17, row), (18, row), (19, row)])
        row[0] = 9
        self.assertEqual([disk.read(block) for block in (17, 18, 19, 2, 3, 4)], [row_of(8)] * 6)

    def test_what_was_handed_in_stays_and_nothing_hangs_on_it(self):
        disk = full_disk(24)
        pairs = new_pairs([17, 19, 23])
        commit(disk, pairs)
        self.assertEqual(pairs, new_pairs([17, 19, 23]))
        rows = all_rows(disk)
        for home, row in pairs:
            row.clear()
        pairs.clear()
        self.assertEqual(all_rows(disk), rows)


class CommitRefusedTest(unittest.TestCase):
    def check_refused(self, error, many, pairs):
        """Refused ahead of any write: so a disk that has stopped refuses it the same way."""
        for stopped in (False, True):
            disk = full_disk(many)
            rows = all_rows(disk)
            if stopped:
                disk.stop_after(0)
            handed = [(home, list(row) if isinstance(row, list) else row) for home, row in pairs]
            self.assertRaises(error, commit, disk, handed)
            self.assertEqual(disk.writes(), 0)
            self.assertEqual(all_rows(disk), rows)
            self.assertEqual(handed, pairs)

    def test_more_than_fifteen(self):
        for count in (16, 17, 40):
            with self.subTest(count=count):
                self.check_refused(TooMuch, 96, new_pairs(range(17, 17 + count)))

    def test_too_much_ahead_of_what_is_wrong_in_a_pair(self):
        for place in (0, 7, 14, 15):
            for wrong in ((0, row_of(1)), (96, row_of(1)), (17 + place, [1]), (None, None)):
                pairs = new_pairs(range(17, 33))
                pairs[place] = wrong
                with self.subTest(place=place, wrong=wrong):
                    self.check_refused(TooMuch, 96, pairs)
        self.check_refused(TooMuch, 96, new_pairs([17] * 16))
        self.check_refused(TooMuch, 24, new_pairs(range(17, 33)))

    def test_fifteen_are_not_too_much(self):
        self.check_refused(NoBlock, 31, new_pairs(range(17, 32)))
        self.check_refused(BadRow, 32, new_pairs(range(17, 31)) + [(31, [1])])

    def test_what_is_no_home(self):
        for number, block in enumerate(list(range(17)) + NEVER_BLOCKS + [24, 25]):
            for place in range(3):
                pairs = new_pairs([18, 19, 20])
                pairs[place] = (block, row_of(1))
                with self.subTest(number=number, place=place):
                    self.check_refused(NoBlock, 24, pairs)

    def test_no_home_alone(self):
        for number, block in enumerate(list(range(17)) + NEVER_BLOCKS + [24, 25]):
            with self.subTest(number=number):
                self.check_refused(NoBlock, 24, [(block, row_of(1))])

    def test_the_bound_is_the_count_of_blocks(self):
        for many in (24, 25, 32, 95, 96):
            with self.subTest(many=many):
                self.check_refused(NoBlock, many, [(many, row_of(1))])
                self.check_refused(NoBlock, many, [(17, row_of(1)), (many, row_of(1))])

    def test_homes_that_do_not_rise(self):
        for homes in ([18, 17], [17, 17], [23, 17], [17, 19, 18], [17, 18, 18], [17, 18, 19, 17], [20, 20, 21],
                      [17, 23, 22], [18, 20, 19, 21]):
            with self.subTest(homes=homes):
                self.check_refused(NoBlock, 24, new_pairs(homes))

    def test_what_is_no_row(self):
        for row in NO_ROWS:
            for place in range(3):
                pairs = new_pairs([17, 20, 23])
                pairs[place] = (pairs[place][0], row)
                with self.subTest(row=row, place=place):
                    self.check_refused(BadRow, 24, pairs)

    def test_in_one_pair_the_block_ahead_of_the_row(self):
        for number, block in enumerate([0, 1, 16] + NEVER_BLOCKS + [24]):
            for row in NO_ROWS:
                with self.subTest(number=number, row=row):
                    self.check_refused(NoBlock, 24, [(block, row)])
        self.check_refused(NoBlock, 24, [(18, row_of(1)), (18, [1])])
        self.check_refused(NoBlock, 24, [(18, row_of(1)), (17, None)])

    def test_of_two_wrong_pairs_the_first_ones(self):
        good = (17, row_of(1))
        for number, block in enumerate([0, 16, 24, -1, True, "17", None, [17]]):
            for row in ([1], None, (0,) * 16):
                with self.subTest(number=number, row=row):
                    self.check_refused(NoBlock, 24, [(block, row_of(1)), (18, row)])
                    self.check_refused(BadRow, 24, [(18, row), (block, row_of(1))])
                    self.check_refused(NoBlock, 24, [good, (block, row_of(1)), (20, row)])
                    self.check_refused(BadRow, 24, [good, (18, row), (block, row_of(1))])
                    self.check_refused(BadRow, 24, [good, (18, row), (19, row_of(1)), (18, row_of(1))])
                    self.check_refused(NoBlock, 24, [good, (17, row_of(1)), (18, row)])


class ComeBackTest(unittest.TestCase):
    def disk_with_head(self, many, head):
        disk = full_disk(many)
        disk.write(1, head)
        return disk.twin()

    def pairs_in_log(self, disk, homes):
        return [(home, disk.read(2 + place)) for place, home in enumerate(homes)]

    def check_bad(self, many, head):
        for stopped in (False, True):
            disk = self.disk_with_head(many, head)
            rows = all_rows(disk)
            if stopped:
                disk.stop_after(0)
            self.assertRaises(BadLog, come_back, disk)
            self.assertEqual(disk.writes(), 0)
            self.assertEqual(all_rows(disk), rows)

    def check_right(self, many, head):
        homes = head[1:1 + head[0]]
        disk = self.disk_with_head(many, head)
        rows = all_rows(disk)
        writes = home_writes(self.pairs_in_log(disk, homes)) if homes else []
        self.assertEqual(come_back(disk), len(homes))
        self.assertEqual(all_rows(disk), behind(rows, writes))
        self.assertEqual(disk.writes(), len(writes))

    def is_right(self, many, head):
        """By the document's words, from the whole heads that there are for this count."""
        count = head[0]
        if count > 15:
            return False
        homes = head[1:1 + count]
        rising = all(homes[place] > homes[place - 1] for place in range(1, count))
        return rising and set(homes) <= set(range(17, many)) and set(head[1 + count:]) <= {0}

    def test_nought_where_the_head_is_all_noughts(self):
        for many in (24, 50, 96):
            disk = full_disk(many)
            rows = all_rows(disk)
            with self.subTest(many=many):
                told = come_back(disk)
                self.assertEqual(told, 0)
                self.assertIs(type(told), int)
                disk.stop_after(0)
                self.assertEqual(come_back(disk), 0)
                self.assertEqual(disk.writes(), 0)
                self.assertEqual(all_rows(disk), rows)

    def test_a_new_disk(self):
        disk = Disk(24)
        self.assertEqual(come_back(disk), 0)
        self.assertEqual(disk.writes(), 0)

    def test_each_right_head(self):
        for many, homes in GOOD_HOMES:
            with self.subTest(many=many, homes=homes):
                self.check_right(many, head_of(homes))

    def test_each_count(self):
        for count in range(1, 16):
            for homes in (range(17, 17 + count), range(96 - count, 96), range(18, 18 + 5 * count, 5)):
                with self.subTest(count=count, homes=homes):
                    self.check_right(96, head_of(homes))

    def test_each_write_in_its_order(self):
        for many, homes in GOOD_HOMES:
            disk = Watched(many)
            for place in range(15):
                disk.write(2 + place, row_of(70 + place))
            disk.write(1, head_of(homes))
            disk.asked.clear()
            come_back(disk)
            wanted = [(home, row_of(70 + place)) for place, home in enumerate(homes)] + [(1, row_of(0))]
            with self.subTest(many=many, homes=homes):
                self.assertEqual(disk.asked, wanted)

    def test_let_be_so_many_writes(self):
        for many, homes in GOOD_HOMES:
            for count in range(len(homes) + 1):
                disk = self.disk_with_head(many, head_of(homes))
                rows = all_rows(disk)
                writes = home_writes(self.pairs_in_log(disk, homes))
                disk.stop_after(count)
                with self.subTest(many=many, homes=homes, count=count):
                    self.assertRaises(Stopped, come_back, disk)
                    self.assertEqual(all_rows(disk), behind(rows, writes[:count]))
                    self.assertEqual(disk.writes(), count)

    def test_just_so_many_writes_are_enough(self):
        for many, homes in GOOD_HOMES:
            disk = self.disk_with_head(many, head_of(homes))
            disk.stop_after(len(homes) + 1)
            with self.subTest(many=many, homes=homes):
                self.assertEqual(come_back(disk), len(homes))

    def test_written_out_wrong_heads(self):
        wrong = [
            [16] + list(range(17, 32)), [17] + list(range(17, 32)), [999999999] + list(range(17, 32)), [16] + [0] * 15,
            [1, 16] + [0] * 14, [1, 0] + [0] * 14, [1, 1] + [0] * 14, [1, 32] + [0] * 14, [1, 33] + [0] * 14,
            [2, 17, 32] + [0] * 13, [2, 16, 17] + [0] * 13, [2, 17, 999999999] + [0] * 13,
            [2, 18, 17] + [0] * 13, [2, 17, 17] + [0] * 13, [3, 17, 19, 18] + [0] * 12, [3, 18, 17, 19] + [0] * 12,
            [3, 17, 20, 20] + [0] * 12, [3, 20, 17, 18] + [0] * 12, [2, 17] + [0] * 14, [3, 17, 18] + [0] * 13,
            [1, 17, 18] + [0] * 13, [1, 17, 1] + [0] * 13, [1, 17] + [0] * 13 + [1], [1, 17, 0, 18] + [0] * 12,
            [0, 17] + [0] * 14, [0, 1] + [0] * 14, [0] * 15 + [1], [0] * 8 + [20] + [0] * 7,
            [15] + list(range(18, 33)), [15] + list(range(16, 31)), [14] + list(range(17, 32)),
            [15] + list(range(17, 31)) + [0],
        ]
        for head in wrong:
            with self.subTest(head=head):
                self.check_bad(32, head)

    def test_a_home_beyond_the_disk_is_right_on_a_greater_one(self):
        for many in (24, 25, 40, 95):
            with self.subTest(many=many):
                self.check_bad(many, head_of([17, many]))
                self.check_right(many + 1, head_of([17, many]))

    def test_one_word_changed_at_each_place(self):
        for many, homes in GOOD_HOMES + [(24, []), (96, [])]:
            head = head_of(homes)
            for place in range(16):
                words = [head[place] + 1, head[place] - 1, 0, 1, 2, 14, 15, 16, 17, 18, many - 1, many, 999999999]
                for word in sorted(set(words) - {-1}):
                    other = list(head)
                    other[place] = word
                    with self.subTest(many=many, homes=homes, place=place, word=word):
                        if self.is_right(many, other):
                            self.check_right(many, other)
                        else:
                            self.check_bad(many, other)


class WholeTest(unittest.TestCase):
    """Wherever a commit stops, coming back leads to the homes as before or as behind."""

    def stopped_disk(self, many, pairs, count):
        disk = full_disk(many)
        disk.stop_after(count)
        try:
            commit(disk, pairs)
        except Stopped:
            pass
        disk.go_on()
        return disk

    def wanted_rows(self, many, pairs, count):
        rows = all_rows(full_disk(many))
        return outside_log(behind(rows, pairs)) if count > len(pairs) else outside_log(rows)

    def wanted_count(self, pairs, count):
        in_log = len(pairs) < count < 2 * len(pairs) + 2
        return len(pairs) if in_log else 0

    def check_at_rest(self, disk, wanted):
        self.assertEqual(outside_log(all_rows(disk)), wanted)
        rows = all_rows(disk)
        done = disk.writes()
        self.assertEqual(come_back(disk), 0)
        self.assertEqual(disk.read(1), row_of(0))
        self.assertEqual(disk.writes(), done)
        self.assertEqual(all_rows(disk), rows)

    def test_stopped_ahead_of_each_write(self):
        for many, homes in GOOD_HOMES:
            pairs = new_pairs(homes)
            for count in range(2 * len(homes) + 3):
                disk = self.stopped_disk(many, pairs, count)
                with self.subTest(many=many, homes=homes, count=count):
                    self.assertEqual(come_back(disk), self.wanted_count(pairs, count))
                    self.check_at_rest(disk, self.wanted_rows(many, pairs, count))

    def test_the_coming_back_is_stopped_once(self):
        for many, homes in GOOD_HOMES:
            pairs = new_pairs(homes)
            for count in range(len(homes) + 1, 2 * len(homes) + 2):
                for second in range(len(homes) + 1):
                    disk = self.stopped_disk(many, pairs, count)
                    disk.stop_after(second)
                    with self.subTest(many=many, homes=homes, count=count, second=second):
                        self.assertRaises(Stopped, come_back, disk)
                        disk.go_on()
                        self.assertEqual(come_back(disk), len(homes))
                        self.check_at_rest(disk, self.wanted_rows(many, pairs, count))

    def test_the_coming_back_is_stopped_several_times(self):
        for homes in ([23], [17, 23], [17, 18, 20]):
            pairs = new_pairs(homes)
            stops = range(len(homes) + 1)
            for count in range(len(homes) + 1, 2 * len(homes) + 2):
                for row_of_stops in itertools.product(stops, repeat=3):
                    disk = self.stopped_disk(24, pairs, count)
                    with self.subTest(homes=homes, count=count, stops=row_of_stops):
                        for stop in row_of_stops:
                            disk.stop_after(stop)
                            self.assertRaises(Stopped, come_back, disk)
                        disk.go_on()
                        self.assertEqual(come_back(disk), len(homes))
                        self.check_at_rest(disk, self.wanted_rows(24, pairs, count))

    def test_fifteen_homes_stopped_by_turns(self):
        homes = list(range(17, 32))
        pairs = new_pairs(homes)
        for count in range(16, 32):
            disk = self.stopped_disk(32, pairs, count)
            for stop in (15, 0, 7, 14, 1, 15):
                disk.stop_after(stop)
                self.assertRaises(Stopped, come_back, disk)
            disk.go_on()
            with self.subTest(count=count):
                self.assertEqual(come_back(disk), 15)
                self.check_at_rest(disk, self.wanted_rows(32, pairs, count))

    def test_a_commit_behind_the_coming_back(self):
        pairs = new_pairs([17, 20, 23])
        for count in range(9):
            disk = self.stopped_disk(24, pairs, count)
            come_back(disk)
            done = disk.writes()
            commit(disk, [(20, row_of(3)), (21, row_of(4))])
            wanted = self.wanted_rows(24, pairs, count)
            # Of the rows outside of the log, the first is block 0's and the second block 17's.
            wanted[4] = row_of(3)
            wanted[5] = row_of(4)
            with self.subTest(count=count):
                self.assertEqual(disk.writes(), done + 6)
                self.check_at_rest(disk, wanted)


class InterfaceTest(unittest.TestCase):
    def test_names_and_arguments(self):
        for name, arguments in {"commit": ["disk", "pairs"], "come_back": ["disk"]}.items():
            with self.subTest(name=name):
                self.assertEqual(list(inspect.signature(getattr(journal, name)).parameters), arguments)


if __name__ == "__main__":
    unittest.main()
