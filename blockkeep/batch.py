"""A batch: rows that are to be written to a disk at once."""

from blockkeep.errors import BadRow, NoBlock
from blockkeep.journal import commit, is_home
from blockkeep.rows import is_row


class Batch:
    def __init__(self, disk):
        self.disk = disk
        self.new_rows = {}

    def read(self, block):
        # Asked first whether it is a home: what is no number may be no key of a dict either.
        if is_home(self.disk, block) and block in self.new_rows:
            return list(self.new_rows[block])
        return self.disk.read(block)

    def write(self, block, row):
        if not is_home(self.disk, block):
            raise NoBlock("the block is no home")
        if not is_row(row):
            raise BadRow("a row is a list of 16 words")
        # A copy, so that the row handed in may be changed later.
        self.new_rows[block] = list(row)

    def pairs(self):
        return [(block, list(self.new_rows[block])) for block in sorted(self.new_rows)]

    def finish(self):
        commit(self.disk, self.pairs())
        # Behind the commit, so that a refused batch keeps its rows.
        self.new_rows = {}
