"""The disk: blocks of rows, a count of the writes, and a stop that it can be told."""

from blockkeep.errors import BadDisk, BadRow, NoBlock, Stopped
from blockkeep.rows import empty_row, is_row, is_whole

LEAST_BLOCKS = 24
MOST_BLOCKS = 96


class Disk:
    def __init__(self, many):
        if not is_whole(many, LEAST_BLOCKS, MOST_BLOCKS):
            raise BadDisk("a disk has 24 to 96 blocks")
        self.kept_rows = [empty_row() for block in range(many)]
        self.writes_done = 0
        self.writes_left = None

    def blocks(self):
        return len(self.kept_rows)

    def read(self, block):
        self.refuse_no_block(block)
        # A copy, so that the asker may change what was told.
        return list(self.kept_rows[block])

    def write(self, block, row):
        self.refuse_no_block(block)
        if not is_row(row):
            raise BadRow("a row is a list of 16 words")
        self.use_up_one()
        # A copy, so that the row handed in may be changed later.
        self.kept_rows[block] = list(row)
        self.writes_done = self.writes_done + 1

    def writes(self):
        return self.writes_done

    def stop_after(self, count):
        self.writes_left = count

    def go_on(self):
        # None, not a great number: without a stop there is no last write.
        self.writes_left = None

    def twin(self):
        other = Disk(self.blocks())
        other.kept_rows = [list(row) for row in self.kept_rows]
        return other

    def refuse_no_block(self, block):
        if not is_whole(block, 0, self.blocks() - 1):
            raise NoBlock("the disk has no such block")

    def use_up_one(self):
        if self.writes_left is None:
            return
        if self.writes_left < 1:
            raise Stopped("the disk has stopped")
        self.writes_left = self.writes_left - 1
