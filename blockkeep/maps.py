"""The maps: a word for each block of the disk, 1 where it is used, 0 where it is free."""

from blockkeep.errors import NoBlock, NoRoom
from blockkeep.rows import ROW_WORDS, changed, is_whole

FREE = 0
USED = 1


def new_maps(layout):
    places = ROW_WORDS * (layout.nodes_at - layout.maps_at)
    free = [FREE] * (layout.many - layout.data_at)
    words = [USED] * layout.data_at + free + [USED] * (places - layout.many)
    return [words[begin:begin + ROW_WORDS] for begin in range(0, places, ROW_WORDS)]


def is_free(batch, layout, block):
    # The maps have words behind the last block's, so the bound is the count of blocks.
    if not is_whole(block, 0, layout.many - 1):
        raise NoBlock("the disk has no such block")
    row = batch.read(layout.maps_at + block // ROW_WORDS)
    return row[block % ROW_WORDS] == FREE


def free_blocks(batch, layout):
    return [block for block in range(layout.many) if is_free(batch, layout, block)]


def take(batch, layout):
    blocks = free_blocks(batch, layout)
    if len(blocks) == 0:
        raise NoRoom("no block is free")
    mark(batch, layout, blocks[0], USED)
    return blocks[0]


def give(batch, layout, block):
    if not is_whole(block, layout.data_at, layout.many - 1):
        raise NoBlock("the block is no data block")
    if is_free(batch, layout, block):
        raise NoBlock("the block is free already")
    mark(batch, layout, block, FREE)


def mark(batch, layout, block, word):
    at = layout.maps_at + block // ROW_WORDS
    batch.write(at, changed(batch.read(at), block % ROW_WORDS, [word]))
