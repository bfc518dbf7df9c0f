"""What several tests share: rows, disks that are full of rows, and things that are no blocks or no rows."""

from blockkeep.disk import Disk

# None of these is a block of any disk, whatever its count of blocks.
NEVER_BLOCKS = [-1, -17, 96, 97, 10 ** 9, 10 ** 5000, -(10 ** 5000), True, False, "0", "17", "", None, [], [17], (17,),
                {}, 17.0]
NO_ROWS = [[], [0] * 15, [0] * 17, (0,) * 16, "0" * 16, None, 0, True, {}, [0] * 15 + [-1], [1000000000] + [0] * 15,
           [0] * 7 + [True] + [0] * 8, [0] * 15 + [False], [0] * 15 + ["0"], [None] * 16, [[0] * 16] * 16]


def row_of(word):
    return [word] * 16


def counted_row(first):
    return list(range(first, first + 16))


def all_rows(disk):
    return [disk.read(block) for block in range(disk.blocks())]


def full_disk(many):
    """A disk whose blocks all differ and are no noughts, but for the log's head, which is; it counts no writes."""
    disk = Disk(many)
    for block in range(many):
        disk.write(block, counted_row(1000 * (block + 1)))
    disk.write(1, row_of(0))
    return disk.twin()


def new_pairs(homes):
    """Pairs for these homes, with rows that no full disk has."""
    return [(home, counted_row(500000 + 100 * home)) for home in homes]
