"""What several tests share: rows, disks that are full of rows, and things that are no blocks, words or rows."""

import unittest

from blockkeep.batch import Batch
from blockkeep.disk import Disk
from blockkeep.maps import new_maps

# None of these is a block of any disk, whatever its count of blocks.
NEVER_BLOCKS = [-1, -17, 96, 97, 10 ** 9, 10 ** 5000, -(10 ** 5000), True, False, "0", "17", "", None, [], [17], (17,),
                {}, 17.0]
NO_WORDS = [-1, 1000000000, -999999999, 10 ** 5000, True, False, "1", "", None, [], [1], (), (1,), {}, 1.0, 0.0, b"1"]
NO_ROWS = [[], [0] * 15, [0] * 17, (0,) * 16, "0" * 16, None, 0, True, {}, [0] * 15 + [-1], [1000000000] + [0] * 15,
           [0] * 7 + [True] + [0] * 8, [0] * 15 + [False], [0] * 15 + ["0"], [None] * 16, [[0] * 16] * 16]


def row_of(word):
    return [word] * 16


def counted_row(first):
    return list(range(first, first + 16))


def all_rows(disk):
    return [disk.read(block) for block in range(disk.blocks())]


def full_disk(many):
    """A disk whose blocks all differ and are no noughts, but for the log's head, which is; it counts no writes."""
    disk = Disk(many)
    for block in range(many):
        disk.write(block, counted_row(1000 * (block + 1)))
    disk.write(1, row_of(0))
    return disk.twin()


def new_pairs(homes):
    """Pairs for these homes, with rows that no full disk has."""
    return [(home, counted_row(500000 + 100 * home)) for home in homes]


def joined(rows):
    return [word for row in rows for word in row]


def mapped_disk(layout):
    """A full disk whose maps tell all data blocks as free."""
    disk = full_disk(layout.many)
    for place, row in enumerate(new_maps(layout)):
        disk.write(layout.maps_at + place, row)
    return disk.twin()


class BatchCase(unittest.TestCase):
    """A disk, its rows at first, and a batch on it; the disk may be checked to be as it was."""

    def start_on(self, disk):
        self.disk = disk.twin()
        self.rows = all_rows(self.disk)
        self.batch = Batch(self.disk)

    def rows_of_batch(self):
        return [self.batch.read(block) for block in range(self.disk.blocks())]

    def check_disk_as_it_was(self):
        self.assertEqual(all_rows(self.disk), self.rows)
        self.assertEqual(self.disk.writes(), 0)

    def check_refused(self, error, deed, *handed):
        """The deed is refused so, and neither the batch nor the disk is changed by it."""
        pairs = self.batch.pairs()
        self.assertRaises(error, deed, *handed)
        self.assertEqual(self.batch.pairs(), pairs)
        self.check_disk_as_it_was()
