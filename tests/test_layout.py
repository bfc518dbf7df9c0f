import inspect
import unittest

from blockkeep import layout as layout_file
from blockkeep.errors import BadDisk, NoRoom
from blockkeep.layout import Layout, head_row, layout_of

NO_COUNTS = [23, 97, 0, 1, -1, -24, 10 ** 5000, True, False, "24", "", None, [], [24], (24,), {}, 24.0]
NO_TABLES = [0, 9, -1, 10, 10 ** 5000, True, False, "1", "", None, [], [1], (1,), {}, 1.0]


def maps_blocks(many):
    # Counted, not reckoned: one block of the maps begins at each sixteenth block.
    return len([block for block in range(many) if block % 16 == 0])


def wanted_values(many, tables):
    nodes_at = 17 + maps_blocks(many)
    return (many, tables, 17, nodes_at, nodes_at + tables)


def has_room(many, tables):
    return wanted_values(many, tables)[4] <= many - 1


def wanted_row(many, tables):
    return [7100719] + list(wanted_values(many, tables)) + [0] * 10


def values_of(layout):
    return (layout.many, layout.tables, layout.maps_at, layout.nodes_at, layout.data_at)


ALL_COUNTS = [(many, tables) for many in range(24, 97) for tables in range(1, 9)]
GOOD_COUNTS = [counts for counts in ALL_COUNTS if has_room(*counts)]
FULL_COUNTS = [counts for counts in ALL_COUNTS if not has_room(*counts)]
HEADS = {tuple(wanted_row(*counts)): counts for counts in GOOD_COUNTS}


class MadeTest(unittest.TestCase):
    def test_all_good_counts(self):
        for many, tables in GOOD_COUNTS:
            with self.subTest(many=many, tables=tables):
                layout = Layout(many, tables)
                self.assertEqual(values_of(layout), wanted_values(many, tables))
                self.assertEqual(layout.most_node(), 2 * tables - 1)

    def test_written_out(self):
        wanted = [
            (24, 1, 17, 19, 20), (24, 4, 17, 19, 23), (31, 2, 17, 19, 21), (32, 2, 17, 19, 21), (33, 2, 17, 20, 22),
            (47, 8, 17, 20, 28), (48, 8, 17, 20, 28), (49, 8, 17, 21, 29), (63, 1, 17, 21, 22), (64, 1, 17, 21, 22),
            (65, 1, 17, 22, 23), (79, 3, 17, 22, 25), (80, 3, 17, 22, 25), (81, 3, 17, 23, 26), (95, 5, 17, 23, 28),
            (96, 8, 17, 23, 31),
        ]
        for values in wanted:
            with self.subTest(values=values):
                self.assertEqual(values_of(Layout(values[0], values[1])), values)

    def test_the_greatest_node_written_out(self):
        self.assertEqual([Layout(96, tables).most_node() for tables in range(1, 9)], [1, 3, 5, 7, 9, 11, 13, 15])

    def test_layouts_are_apart(self):
        one = Layout(24, 1)
        other = Layout(96, 8)
        self.assertEqual(values_of(one), (24, 1, 17, 19, 20))
        self.assertEqual(values_of(other), (96, 8, 17, 23, 31))


class RefusedTest(unittest.TestCase):
    def test_other_counts_of_blocks(self):
        for place, many in enumerate(NO_COUNTS):
            for tables in (1, 4, 8):
                with self.subTest(place=place, tables=tables):
                    self.assertRaises(BadDisk, Layout, many, tables)

    def test_other_counts_of_blocks_of_nodes(self):
        for place, tables in enumerate(NO_TABLES):
            for many in (24, 50, 96):
                with self.subTest(place=place, many=many):
                    self.assertRaises(BadDisk, Layout, many, tables)

    def test_both_wrong(self):
        for place, many in enumerate(NO_COUNTS):
            for other, tables in enumerate(NO_TABLES):
                with self.subTest(place=place, other=other):
                    self.assertRaises(BadDisk, Layout, many, tables)

    def test_no_room_where_just_no_block_is_left(self):
        for many, tables in ((24, 5), (25, 6), (26, 7), (27, 8)):
            with self.subTest(many=many, tables=tables):
                self.assertRaises(NoRoom, Layout, many, tables)

    def test_room_where_just_one_block_is_left(self):
        for many, tables in ((24, 4), (25, 5), (26, 6), (27, 7), (28, 8)):
            with self.subTest(many=many, tables=tables):
                self.assertEqual(Layout(many, tables).data_at, many - 1)

    def test_no_room_for_all_counts_that_leave_none(self):
        self.assertEqual(FULL_COUNTS, [(24, 5), (24, 6), (24, 7), (24, 8), (25, 6), (25, 7), (25, 8), (26, 7), (26, 8),
                                       (27, 8)])
        for many, tables in FULL_COUNTS:
            with self.subTest(many=many, tables=tables):
                self.assertRaises(NoRoom, Layout, many, tables)

    def test_bad_disk_ahead_of_no_room(self):
        for many, tables in ((24, 9), (23, 5), (23, 8), (0, 8), (24, 96), (-24, 8)):
            with self.subTest(many=many, tables=tables):
                self.assertRaises(BadDisk, Layout, many, tables)


class HeadRowTest(unittest.TestCase):
    def test_all_good_counts(self):
        for many, tables in GOOD_COUNTS:
            with self.subTest(many=many, tables=tables):
                self.assertEqual(head_row(Layout(many, tables)), wanted_row(many, tables))

    def test_written_out(self):
        self.assertEqual(head_row(Layout(24, 1)), [7100719, 24, 1, 17, 19, 20, 0, 0, 0, 0, 0, 0, 0, 0, 0, 0])
        self.assertEqual(head_row(Layout(50, 3)), [7100719, 50, 3, 17, 21, 24, 0, 0, 0, 0, 0, 0, 0, 0, 0, 0])
        self.assertEqual(head_row(Layout(96, 8)), [7100719, 96, 8, 17, 23, 31, 0, 0, 0, 0, 0, 0, 0, 0, 0, 0])

    def test_a_new_list_each_time(self):
        layout = Layout(24, 1)
        told = head_row(layout)
        self.assertIsNot(told, head_row(layout))
        told[1] = 5
        told.append(6)
        self.assertEqual(head_row(layout), wanted_row(24, 1))
        self.assertEqual(values_of(layout), (24, 1, 17, 19, 20))


class LayoutOfTest(unittest.TestCase):
    def check_told(self, row):
        """The layout where the row is a head's row, by the document's words; else the refusal."""
        handed = list(row)
        counts = HEADS.get(tuple(row))
        if counts is None:
            self.assertRaises(BadDisk, layout_of, handed)
        else:
            self.assertEqual(values_of(layout_of(handed)), wanted_values(*counts))
        self.assertEqual(handed, row)

    def test_all_good_counts(self):
        for many, tables in GOOD_COUNTS:
            with self.subTest(many=many, tables=tables):
                row = head_row(Layout(many, tables))
                layout = layout_of(row)
                self.assertIsInstance(layout, Layout)
                self.assertEqual(row, wanted_row(many, tables))
                self.assertEqual(values_of(layout), wanted_values(many, tables))
                self.assertEqual(layout.most_node(), 2 * tables - 1)

    def test_a_row_changed_behind_changes_nothing(self):
        row = wanted_row(50, 3)
        layout = layout_of(row)
        for place in range(16):
            row[place] = 24
        row.clear()
        self.assertEqual(values_of(layout), (50, 3, 17, 21, 24))
        self.assertEqual(head_row(layout), wanted_row(50, 3))

    def test_one_word_changed_at_each_place(self):
        for counts in GOOD_COUNTS:
            row = wanted_row(*counts)
            for place in range(16):
                for word in (row[place] + 1, row[place] - 1, 0, 1, 8, 9, 16, 24, 97, 7100719, 999999999):
                    if word < 0:
                        continue
                    other = list(row)
                    other[place] = word
                    with self.subTest(row=row, place=place, word=word):
                        self.check_told(other)

    def test_one_word_changed_written_out(self):
        wrong = [
            [7100718, 40, 2, 17, 20, 22] + [0] * 10, [7100720, 40, 2, 17, 20, 22] + [0] * 10,
            [0, 40, 2, 17, 20, 22] + [0] * 10, [7100719, 49, 2, 17, 20, 22] + [0] * 10,
            [7100719, 32, 2, 17, 20, 22] + [0] * 10, [7100719, 40, 1, 17, 20, 22] + [0] * 10,
            [7100719, 40, 3, 17, 20, 22] + [0] * 10, [7100719, 40, 2, 16, 20, 22] + [0] * 10,
            [7100719, 40, 2, 18, 20, 22] + [0] * 10, [7100719, 40, 2, 17, 19, 22] + [0] * 10,
            [7100719, 40, 2, 17, 21, 22] + [0] * 10, [7100719, 40, 2, 17, 20, 21] + [0] * 10,
            [7100719, 40, 2, 17, 20, 23] + [0] * 10, [7100719, 40, 2, 17, 20, 22, 1] + [0] * 9,
            [7100719, 40, 2, 17, 20, 22] + [0] * 9 + [1],
        ]
        for row in wrong:
            with self.subTest(row=row):
                self.assertRaises(BadDisk, layout_of, row)
        # The count of blocks may change where the maps have room: that is another layout's row.
        self.assertEqual(values_of(layout_of([7100719, 41, 2, 17, 20, 22] + [0] * 10)), (41, 2, 17, 20, 22))

    def test_rows_of_counts_that_leave_no_room(self):
        for many, tables in FULL_COUNTS:
            with self.subTest(many=many, tables=tables):
                self.assertRaises(BadDisk, layout_of, wanted_row(many, tables))

    def test_rows_of_wrong_counts(self):
        for many, tables in ((23, 1), (97, 1), (0, 1), (24, 0), (96, 9), (96, 0), (112, 8), (0, 0)):
            with self.subTest(many=many, tables=tables):
                self.assertRaises(BadDisk, layout_of, wanted_row(many, tables))

    def test_rows_of_nothing(self):
        for row in ([0] * 16, [7100719] + [0] * 15, [7100719] * 16, [1] * 16, [999999999] * 16):
            with self.subTest(row=row):
                self.assertRaises(BadDisk, layout_of, row)


class InterfaceTest(unittest.TestCase):
    def test_names_and_arguments(self):
        self.assertEqual(list(inspect.signature(Layout).parameters), ["many", "tables"])
        self.assertEqual(list(inspect.signature(Layout(24, 1).most_node).parameters), [])
        for name, arguments in {"head_row": ["layout"], "layout_of": ["row"]}.items():
            with self.subTest(name=name):
                self.assertEqual(list(inspect.signature(getattr(layout_file, name)).parameters), arguments)


if __name__ == "__main__":
    unittest.main()
