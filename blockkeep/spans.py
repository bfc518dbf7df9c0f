"""The words of a node: sixteen to a block, in the blocks that its places and its block far tell."""

from blockkeep.errors import BadRow, OutOfPlace, TooLong
from blockkeep.maps import give, take
from blockkeep.nodes import FAR_AT, PLACES_AT, SIZE_AT, node_of, put_node
from blockkeep.rows import ROW_WORDS, are_words, changed, empty_row

MOST_SIZE = 320
NEAR_BLOCKS = FAR_AT - PLACES_AT


def blocks_of(batch, layout, node):
    words = node_of(batch, layout, node)
    count = count_of_blocks(words[SIZE_AT])
    near = words[PLACES_AT:FAR_AT]
    if count <= NEAR_BLOCKS:
        return near[:count]
    return near + batch.read(words[FAR_AT])[:count - NEAR_BLOCKS]


def used_by(batch, layout, node):
    blocks = blocks_of(batch, layout, node)
    if len(blocks) <= NEAR_BLOCKS:
        return blocks
    far = node_of(batch, layout, node)[FAR_AT]
    return blocks[:NEAR_BLOCKS] + [far] + blocks[NEAR_BLOCKS:]


def words_of(batch, layout, node, begin, count):
    refuse_out_of_place(batch, layout, node, begin, count)
    blocks = blocks_of(batch, layout, node)
    words = []
    for at, step in parts(begin, count):
        first = at % ROW_WORDS
        words.extend(batch.read(blocks[at // ROW_WORDS])[first:first + step])
    return words


def put_words(batch, layout, node, begin, words):
    # What is no list has no length, so of it the begin alone is looked at.
    count = len(words) if isinstance(words, list) else 0
    refuse_out_of_place(batch, layout, node, begin, count)
    if not are_words(words):
        raise BadRow("what is put is no list of words")
    blocks = blocks_of(batch, layout, node)
    for at, step in parts(begin, count):
        block = blocks[at // ROW_WORDS]
        part = words[at - begin:at - begin + step]
        batch.write(block, changed(batch.read(block), at % ROW_WORDS, part))


def sized(batch, layout, node, size):
    if size < 0:
        raise OutOfPlace("a size is not below 0")
    if size > MOST_SIZE:
        raise TooLong("a size is at most 320")
    before = node_of(batch, layout, node)[SIZE_AT]
    used = fitted(batch, layout, used_by(batch, layout, node), count_of_used(size))
    put_used(batch, layout, node, size, used)
    clear_behind(batch, blocks_of(batch, layout, node), min(before, size))


def count_of_blocks(size):
    return (size + ROW_WORDS - 1) // ROW_WORDS


def count_of_used(size):
    count = count_of_blocks(size)
    return count if count <= NEAR_BLOCKS else count + 1


def refuse_out_of_place(batch, layout, node, begin, count):
    size = node_of(batch, layout, node)[SIZE_AT]
    if begin < 0 or count < 0 or begin + count > size:
        raise OutOfPlace("the node has no such words")


def parts(begin, count):
    # Cut where a block ends, so that each part lies in one block.
    end = begin + count
    cuts = []
    at = begin
    while at < end:
        step = min(ROW_WORDS - at % ROW_WORDS, end - at)
        cuts.append((at, step))
        at = at + step
    return cuts


def fitted(batch, layout, used, count):
    # Far stands among them as used_by tells it, so it comes and goes just with the fifth.
    for block in used[count:]:
        give(batch, layout, block)
    kept = used[:count]
    while len(kept) < count:
        kept.append(take(batch, layout))
    return kept


def put_used(batch, layout, node, size, used):
    words = changed(node_of(batch, layout, node), SIZE_AT, [size] + [0] * (NEAR_BLOCKS + 1))
    # The first five stand in the node in just this order: four places, far.
    put_node(batch, layout, node, changed(words, PLACES_AT, used[:NEAR_BLOCKS + 1]))
    if len(used) > NEAR_BLOCKS:
        batch.write(used[NEAR_BLOCKS], changed(empty_row(), 0, used[NEAR_BLOCKS + 1:]))


def clear_behind(batch, blocks, first):
    # A block that was taken still has the row of its last user.
    for place in range(first // ROW_WORDS, len(blocks)):
        kept = max(0, first - place * ROW_WORDS)
        row = batch.read(blocks[place])
        batch.write(blocks[place], changed(empty_row(), 0, row[:kept]))
