"""The nodes: eight words each, two to a block of nodes."""

from blockkeep.errors import BadRow, NoNode, NoNodes
from blockkeep.rows import ROW_WORDS, are_words, changed, is_whole

UNUSED = 0
FILE = 1
FOLDER = 2

NODE_WORDS = 8
KIND_AT = 0
SIZE_AT = 2
PLACES_AT = 3
FAR_AT = 7


def node_of(batch, layout, node):
    refuse_no_node(layout, node)
    at = first_word_of(node)
    return batch.read(block_of(layout, node))[at:at + NODE_WORDS]


def put_node(batch, layout, node, words):
    refuse_no_node(layout, node)
    if not are_words(words) or len(words) != NODE_WORDS:
        raise BadRow("a node has a list of eight words")
    block = block_of(layout, node)
    batch.write(block, changed(batch.read(block), first_word_of(node), words))


def take_node(batch, layout, kind):
    # From 1 on: node 0 is never used, though its words look like those of an unused one.
    for node in range(1, layout.most_node() + 1):
        if node_of(batch, layout, node)[KIND_AT] == UNUSED:
            put_node(batch, layout, node, [kind] + [0] * (NODE_WORDS - 1))
            return node
    raise NoNodes("no node is unused")


def give_node(batch, layout, node):
    put_node(batch, layout, node, [0] * NODE_WORDS)


def refuse_no_node(layout, node):
    if not is_whole(node, 1, layout.most_node()):
        raise NoNode("there is no such node")


def block_of(layout, node):
    return layout.nodes_at + node * NODE_WORDS // ROW_WORDS


def first_word_of(node):
    return node * NODE_WORDS % ROW_WORDS
