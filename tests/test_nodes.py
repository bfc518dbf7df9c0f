import inspect
import unittest

from blockkeep import nodes
from blockkeep.batch import Batch
from blockkeep.errors import BadRow, NoNode, NoNodes
from blockkeep.layout import Layout
from blockkeep.nodes import FILE, FOLDER, give_node, node_of, put_node, take_node
from tests.helping import NO_WORDS, BatchCase, full_disk, row_of

MANY = 40
NO_NODE_WORDS = [[], [1] * 7, [1] * 9, [1] * 16, (1,) * 8, None, "11111111", "", 1, True, {}, {0: 1}, [[1] * 8]]


def never_nodes(layout):
    """Things that are no node of this layout; the greatest one is an odd one, so that its block has none behind it."""
    most = 2 * layout.tables - 1
    return [0, -1, -2, most + 1, most + 2, 2 * most + 20, 10 ** 9, 10 ** 5000, -(10 ** 5000), True, False, "1", "",
            str(most), None, [], [1], (1,), {}, 1.0]


def eight(first):
    return list(range(first, first + 8))


class NodesTest(BatchCase):
    def set_up_with(self, tables):
        """A full disk with so many blocks of nodes, whose nodes all differ."""
        self.layout = Layout(MANY, tables)
        self.start_on(full_disk(MANY))

    def set_up_unused(self, tables):
        """The same, but all nodes are unused."""
        self.set_up_with(tables)
        for block in range(self.layout.nodes_at, self.layout.data_at):
            self.disk.write(block, row_of(0))
        self.start_on(self.disk)

    def setUp(self):
        self.set_up_with(3)

    def all_nodes(self):
        return list(range(1, 2 * self.layout.tables))

    def words_by_nodes(self):
        """The words of all nodes, also of node 0, as the batch's rows have them."""
        words = []
        for block in range(self.layout.nodes_at, self.layout.data_at):
            row = self.batch.read(block)
            words.extend([row[:8], row[8:]])
        return words

    def check_words(self, wanted):
        """The nodes have just these words; every other row of the batch, and the disk, is as it was."""
        self.assertEqual(self.words_by_nodes(), wanted)
        for block in range(MANY):
            if not self.layout.nodes_at <= block < self.layout.data_at:
                self.assertEqual(self.batch.read(block), self.rows[block])
        self.check_disk_as_it_was()

    def check_deed_refused(self, error, deed, *handed):
        self.check_refused(error, deed, self.batch, self.layout, *handed)


class NodeOfTest(NodesTest):
    def test_each_node_with_each_count_of_blocks(self):
        for tables in range(1, 9):
            self.set_up_with(tables)
            wanted = self.words_by_nodes()
            for node in self.all_nodes():
                with self.subTest(tables=tables, node=node):
                    told = node_of(self.batch, self.layout, node)
                    self.assertIs(type(told), list)
                    self.assertEqual(told, wanted[node])
            self.assertEqual(self.batch.pairs(), [])
            self.check_disk_as_it_was()

    def test_written_out(self):
        # The nodes begin at block 20; a full disk's block 20 has the words from 21000 on.
        self.assertEqual(node_of(self.batch, self.layout, 1), eight(21008))
        self.assertEqual(node_of(self.batch, self.layout, 2), eight(22000))
        self.assertEqual(node_of(self.batch, self.layout, 3), eight(22008))
        self.assertEqual(node_of(self.batch, self.layout, 4), eight(23000))
        self.assertEqual(node_of(self.batch, self.layout, 5), eight(23008))

    def test_a_new_list_each_time(self):
        told = node_of(self.batch, self.layout, 2)
        self.assertIsNot(told, node_of(self.batch, self.layout, 2))
        told[0] = 5
        told.pop()
        self.assertEqual(node_of(self.batch, self.layout, 2), eight(22000))

    def test_a_new_list_of_a_node_in_the_batch_too(self):
        put_node(self.batch, self.layout, 2, eight(1))
        told = node_of(self.batch, self.layout, 2)
        told[0] = 5
        self.assertEqual(node_of(self.batch, self.layout, 2), eight(1))

    def test_told_ahead_it_stays(self):
        told = node_of(self.batch, self.layout, 3)
        put_node(self.batch, self.layout, 3, eight(1))
        again = node_of(self.batch, self.layout, 3)
        give_node(self.batch, self.layout, 3)
        self.assertEqual(told, eight(22008))
        self.assertEqual(again, eight(1))


class PutNodeTest(NodesTest):
    def test_each_node_with_each_count_of_blocks(self):
        for tables in range(1, 9):
            self.set_up_with(tables)
            wanted = self.words_by_nodes()
            for node in self.all_nodes():
                with self.subTest(tables=tables, node=node):
                    self.assertIsNone(put_node(self.batch, self.layout, node, eight(100 * node)))
                    wanted[node] = eight(100 * node)
                    self.check_words(wanted)
                    self.assertEqual(node_of(self.batch, self.layout, node), eight(100 * node))

    def test_one_alone_with_each_count_of_blocks(self):
        for tables in range(1, 9):
            for node in range(1, 2 * tables):
                self.set_up_with(tables)
                wanted = self.words_by_nodes()
                put_node(self.batch, self.layout, node, eight(7))
                wanted[node] = eight(7)
                with self.subTest(tables=tables, node=node):
                    self.check_words(wanted)
                    self.assertEqual([block for block, row in self.batch.pairs()], [20 + node // 2])

    def test_any_words(self):
        for words in ([0] * 8, [999999999] * 8, [0, 1, 2, 3, 4, 5, 6, 999999999], [9, 0, 500, 1, 1, 1, 1, 95]):
            put_node(self.batch, self.layout, 4, words)
            self.assertEqual(node_of(self.batch, self.layout, 4), words)

    def test_the_list_handed_in_stays_and_may_be_changed(self):
        words = eight(3)
        put_node(self.batch, self.layout, 1, words)
        self.assertEqual(words, eight(3))
        words[2] = 77
        words.append(1)
        self.assertEqual(node_of(self.batch, self.layout, 1), eight(3))
        words.clear()
        self.assertEqual(node_of(self.batch, self.layout, 1), eight(3))

    def test_bad_row(self):
        for node in (1, 2, 5):
            for place, words in enumerate(NO_NODE_WORDS):
                with self.subTest(node=node, place=place):
                    self.check_deed_refused(BadRow, put_node, node, words)

    def test_bad_row_for_one_word_at_each_place(self):
        for at in range(8):
            for place, word in enumerate(NO_WORDS):
                words = eight(1)
                words[at] = word
                with self.subTest(at=at, place=place):
                    self.check_deed_refused(BadRow, put_node, 2, words)
                    self.assertEqual(words, eight(1)[:at] + [word] + eight(1)[at + 1:])

    def test_a_refusal_keeps_what_the_batch_has(self):
        put_node(self.batch, self.layout, 2, eight(1))
        self.check_deed_refused(BadRow, put_node, 2, [1] * 7)
        self.check_deed_refused(NoNode, put_node, 6, eight(1))
        self.assertEqual(node_of(self.batch, self.layout, 2), eight(1))


class TakeNodeTest(NodesTest):
    def test_the_least_one_again_and_again_until_no_nodes(self):
        for tables in range(1, 9):
            self.set_up_unused(tables)
            wanted = self.words_by_nodes()
            for node in self.all_nodes():
                kind = (FILE, FOLDER)[node % 2]
                with self.subTest(tables=tables, node=node):
                    told = take_node(self.batch, self.layout, kind)
                    wanted[node] = [kind, 0, 0, 0, 0, 0, 0, 0]
                    self.assertEqual(told, node)
                    self.assertIs(type(told), int)
                    self.check_words(wanted)
            with self.subTest(tables=tables):
                self.check_deed_refused(NoNodes, take_node, FILE)
                self.check_deed_refused(NoNodes, take_node, FOLDER)
                self.check_words(wanted)
                self.assertEqual(wanted[0], [0] * 8)

    def test_given_it_is_the_least_again(self):
        self.set_up_unused(4)
        for step in range(7):
            take_node(self.batch, self.layout, FILE)
        for node in (7, 2, 3):
            give_node(self.batch, self.layout, node)
        self.assertEqual([take_node(self.batch, self.layout, FOLDER) for step in range(3)], [2, 3, 7])
        self.check_deed_refused(NoNodes, take_node, FILE)
        self.assertEqual([words[0] for words in self.words_by_nodes()], [0, 1, 2, 2, 1, 1, 1, 2])

    def test_each_one_given_is_taken_again(self):
        for tables in range(1, 9):
            self.set_up_unused(tables)
            for node in self.all_nodes():
                take_node(self.batch, self.layout, FILE)
            for node in self.all_nodes():
                give_node(self.batch, self.layout, node)
                self.assertEqual(take_node(self.batch, self.layout, FOLDER), node)
                self.assertEqual(node_of(self.batch, self.layout, node), [2, 0, 0, 0, 0, 0, 0, 0])

    def test_used_ones_are_passed_over(self):
        self.set_up_unused(3)
        put_node(self.batch, self.layout, 1, [2, 1, 0, 0, 0, 0, 0, 0])
        put_node(self.batch, self.layout, 2, [1, 0, 0, 0, 0, 0, 0, 0])
        put_node(self.batch, self.layout, 4, [1, 3, 16, 30, 0, 0, 0, 0])
        self.assertEqual([take_node(self.batch, self.layout, FILE) for step in range(2)], [3, 5])
        self.check_deed_refused(NoNodes, take_node, FILE)
        self.assertEqual(node_of(self.batch, self.layout, 4), [1, 3, 16, 30, 0, 0, 0, 0])

    def test_no_words_of_an_unused_one_are_left(self):
        self.set_up_unused(2)
        put_node(self.batch, self.layout, 1, [0, 2, 3, 4, 5, 6, 7, 8])
        self.assertEqual(take_node(self.batch, self.layout, FOLDER), 1)
        self.assertEqual(node_of(self.batch, self.layout, 1), [2, 0, 0, 0, 0, 0, 0, 0])

    def test_node_0_is_never_told(self):
        self.batch.write(20, row_of(0)[:8] + [1] * 8)
        self.check_deed_refused(NoNodes, take_node, FILE)

    def test_only_its_block_comes_into_the_batch(self):
        self.set_up_unused(4)
        take_node(self.batch, self.layout, FILE)
        self.assertEqual([block for block, row in self.batch.pairs()], [20])
        take_node(self.batch, self.layout, FILE)
        take_node(self.batch, self.layout, FILE)
        self.assertEqual([block for block, row in self.batch.pairs()], [20, 21])


class GiveNodeTest(NodesTest):
    def test_each_node_with_each_count_of_blocks(self):
        for tables in range(1, 9):
            self.set_up_with(tables)
            wanted = self.words_by_nodes()
            for node in self.all_nodes():
                with self.subTest(tables=tables, node=node):
                    self.assertIsNone(give_node(self.batch, self.layout, node))
                    wanted[node] = [0] * 8
                    self.check_words(wanted)

    def test_one_alone(self):
        for node in range(1, 6):
            self.setUp()
            wanted = self.words_by_nodes()
            give_node(self.batch, self.layout, node)
            wanted[node] = [0] * 8
            with self.subTest(node=node):
                self.check_words(wanted)
                self.assertEqual([block for block, row in self.batch.pairs()], [20 + node // 2])

    def test_an_unused_one_stays_unused(self):
        give_node(self.batch, self.layout, 3)
        self.assertIsNone(give_node(self.batch, self.layout, 3))
        self.assertEqual(node_of(self.batch, self.layout, 3), [0] * 8)


class NoNodeTest(NodesTest):
    def check_no_node(self, node):
        self.check_deed_refused(NoNode, node_of, node)
        self.check_deed_refused(NoNode, give_node, node)
        # Ahead of the refusal of what is no list of eight words.
        for words in (eight(1), None, [1] * 7, [-1] * 8):
            self.check_deed_refused(NoNode, put_node, node, words)

    def test_with_each_count_of_blocks(self):
        for tables in range(1, 9):
            self.set_up_with(tables)
            for place, node in enumerate(never_nodes(self.layout)):
                with self.subTest(tables=tables, place=place):
                    self.check_no_node(node)


class FinishedTest(NodesTest):
    def test_behind_the_finish_another_batch_tells_the_same(self):
        self.set_up_unused(3)
        for step in range(4):
            take_node(self.batch, self.layout, FOLDER)
        put_node(self.batch, self.layout, 3, eight(1))
        give_node(self.batch, self.layout, 2)
        wanted = self.words_by_nodes()
        self.check_words(wanted)
        fresh = Batch(self.disk)
        self.assertEqual([node_of(fresh, self.layout, node) for node in self.all_nodes()], [[0] * 8] * 5)
        self.batch.finish()
        self.assertEqual(self.disk.writes(), 8)
        other = Batch(self.disk)
        self.assertEqual([node_of(other, self.layout, node) for node in self.all_nodes()], wanted[1:])
        self.assertEqual([node_of(self.batch, self.layout, node) for node in self.all_nodes()], wanted[1:])
        self.assertEqual([take_node(other, self.layout, FILE) for step in range(2)], [2, 5])
        for block in list(range(17, 20)) + list(range(23, MANY)):
            self.assertEqual(self.disk.read(block), self.rows[block])


class InterfaceTest(unittest.TestCase):
    def test_kinds(self):
        self.assertEqual([FILE, FOLDER], [1, 2])
        self.assertEqual([type(FILE), type(FOLDER)], [int, int])

    def test_names_and_arguments(self):
        wanted = {"node_of": ["batch", "layout", "node"], "put_node": ["batch", "layout", "node", "words"],
                  "take_node": ["batch", "layout", "kind"], "give_node": ["batch", "layout", "node"]}
        for name, arguments in wanted.items():
            with self.subTest(name=name):
                self.assertEqual(list(inspect.signature(getattr(nodes, name)).parameters), arguments)


if __name__ == "__main__":
    unittest.main()
