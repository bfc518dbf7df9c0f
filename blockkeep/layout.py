"""Where things lie on a disk: the head, the log, the maps, the nodes, the data."""

from blockkeep.disk import LEAST_BLOCKS, MOST_BLOCKS
from blockkeep.errors import BadDisk, NoRoom
from blockkeep.rows import ROW_WORDS, changed, empty_row, is_whole

HEAD_SIGN = 7100719
LOG_HEAD_AT = 1
LOG_ROWS_AT = 2
MAPS_AT = 17
MOST_TABLES = 8


class Layout:
    def __init__(self, many, tables):
        if not is_whole(many, LEAST_BLOCKS, MOST_BLOCKS):
            raise BadDisk("a disk has 24 to 96 blocks")
        if not is_whole(tables, 1, MOST_TABLES):
            raise BadDisk("there are 1 to 8 blocks of nodes")
        self.many = many
        self.tables = tables
        self.maps_at = MAPS_AT
        # Rounded upwards, so that the last blocks have their words in the maps too.
        self.nodes_at = MAPS_AT + (many + ROW_WORDS - 1) // ROW_WORDS
        self.data_at = self.nodes_at + tables
        if self.data_at >= many:
            raise NoRoom("no block is left for data")

    def most_node(self):
        return 2 * self.tables - 1


def head_row(layout):
    words = [HEAD_SIGN, layout.many, layout.tables, layout.maps_at, layout.nodes_at, layout.data_at]
    return changed(empty_row(), 0, words)


def layout_of(row):
    try:
        layout = Layout(row[1], row[2])
    except NoRoom:
        # Whoever reads a head asks for no room: such a row is just no head.
        raise BadDisk("the row tells no layout") from None
    # Two words tell the whole layout, so all others have only to agree with it.
    if row != head_row(layout):
        raise BadDisk("the row tells no layout")
    return layout
