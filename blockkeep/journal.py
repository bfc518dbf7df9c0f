"""The journal: rows are written to the log first, so that all of them come to their homes or none."""

from blockkeep.errors import BadLog, BadRow, NoBlock, TooMuch
from blockkeep.layout import LOG_HEAD_AT, LOG_ROWS_AT, MAPS_AT
from blockkeep.rows import changed, empty_row, is_row, is_whole

MOST_HOMES = 15


def is_home(disk, block):
    # The head and the log itself lie ahead of the maps; they are never written through the log.
    return is_whole(block, MAPS_AT, disk.blocks() - 1)


def commit(disk, pairs):
    refuse_wrong_pairs(disk, pairs)
    if len(pairs) > 0:
        write_log(disk, pairs)
        write_homes(disk, pairs)


def come_back(disk):
    head = disk.read(LOG_HEAD_AT)
    if not is_right_head(disk, head):
        raise BadLog("the log's head is not right")
    count = head[0]
    if count > 0:
        write_homes(disk, [(head[1 + place], disk.read(LOG_ROWS_AT + place)) for place in range(count)])
    return count


def refuse_wrong_pairs(disk, pairs):
    if len(pairs) > MOST_HOMES:
        raise TooMuch("at most 15 rows are written at once")
    ahead = None
    for block, row in pairs:
        if not is_home(disk, block):
            raise NoBlock("the block is no home")
        if ahead is not None and block <= ahead:
            raise NoBlock("the homes don't rise")
        if not is_row(row):
            raise BadRow("a row is a list of 16 words")
        ahead = block


def write_log(disk, pairs):
    homes = []
    for block, row in pairs:
        disk.write(LOG_ROWS_AT + len(homes), row)
        homes.append(block)
    # By this one write the deed is done: ahead of it the log's rows mean nothing.
    disk.write(LOG_HEAD_AT, changed(empty_row(), 0, [len(homes)] + homes))


def write_homes(disk, pairs):
    for block, row in pairs:
        disk.write(block, row)
    # Last, so that a stop ahead of it leaves the log to be come back to.
    disk.write(LOG_HEAD_AT, empty_row())


def is_right_head(disk, head):
    count = head[0]
    if count > MOST_HOMES:
        return False
    homes = head[1:1 + count]
    behind = head[1 + count:]
    return are_rising_homes(disk, homes) and all([word == 0 for word in behind])


def are_rising_homes(disk, homes):
    rising = all([one < other for one, other in zip(homes, homes[1:])])
    return rising and all([is_home(disk, block) for block in homes])
