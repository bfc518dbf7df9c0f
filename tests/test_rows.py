import inspect
import unittest

from blockkeep import rows
from blockkeep.rows import changed, empty_row, is_row, is_word
from tests.helping import NO_WORDS


def counted_row():
    return list(range(101, 117))


class IsWordTest(unittest.TestCase):
    def test_words(self):
        for word in (0, 1, 16, 7100719, 999999998, 999999999):
            with self.subTest(word=word):
                self.assertIs(is_word(word), True)

    def test_no_words(self):
        for place, thing in enumerate(NO_WORDS):
            with self.subTest(place=place):
                self.assertIs(is_word(thing), False)


class IsRowTest(unittest.TestCase):
    def test_sixteen_words_are_a_row(self):
        for row in ([0] * 16, [999999999] * 16, counted_row()):
            with self.subTest(row=row):
                self.assertIs(is_row(row), True)

    def test_other_lengths_are_none(self):
        for length in (0, 1, 15, 17, 32):
            with self.subTest(length=length):
                self.assertIs(is_row([0] * length), False)

    def test_what_is_no_list_is_none(self):
        things = [(0,) * 16, tuple(counted_row()), "0" * 16, "", None, 0, 16, True, False, range(16), b"0" * 16,
                  {place: 0 for place in range(16)}]
        for thing in things:
            with self.subTest(thing=thing):
                self.assertIs(is_row(thing), False)

    def test_one_that_is_no_word_at_any_place(self):
        for place in range(16):
            for number, thing in enumerate(NO_WORDS):
                row = counted_row()
                row[place] = thing
                with self.subTest(place=place, number=number):
                    self.assertIs(is_row(row), False)

    def test_the_row_asked_about_stays(self):
        row = counted_row()
        is_row(row)
        self.assertEqual(row, counted_row())


class EmptyRowTest(unittest.TestCase):
    def test_sixteen_noughts(self):
        self.assertEqual(empty_row(), [0] * 16)
        self.assertIs(is_row(empty_row()), True)

    def test_a_new_list_each_time(self):
        first = empty_row()
        first[3] = 5
        first.append(1)
        second = empty_row()
        self.assertEqual(second, [0] * 16)
        self.assertIsNot(first, second)


class ChangedTest(unittest.TestCase):
    def test_every_place_and_every_count_that_has_room(self):
        for at in range(16):
            for count in range(17 - at):
                words = list(range(900, 900 + count))
                wanted = counted_row()
                for step, word in enumerate(words):
                    wanted[at + step] = word
                with self.subTest(at=at, count=count):
                    self.assertEqual(changed(counted_row(), at, words), wanted)

    def test_written_out(self):
        row = [1, 2, 3, 4, 5, 6, 7, 8, 9, 10, 11, 12, 13, 14, 15, 16]
        self.assertEqual(changed(row, 0, [70]), [70, 2, 3, 4, 5, 6, 7, 8, 9, 10, 11, 12, 13, 14, 15, 16])
        self.assertEqual(changed(row, 15, [70]), [1, 2, 3, 4, 5, 6, 7, 8, 9, 10, 11, 12, 13, 14, 15, 70])
        self.assertEqual(changed(row, 5, [70, 71, 72]), [1, 2, 3, 4, 5, 70, 71, 72, 9, 10, 11, 12, 13, 14, 15, 16])
        self.assertEqual(changed(row, 13, [70, 71, 72]), [1, 2, 3, 4, 5, 6, 7, 8, 9, 10, 11, 12, 13, 70, 71, 72])
        self.assertEqual(changed(row, 0, [0] * 16), [0] * 16)

    def test_no_words_behind_the_last_place(self):
        self.assertEqual(changed(counted_row(), 16, []), counted_row())

    def test_a_new_list_each_time(self):
        for at, words in ((0, []), (7, []), (15, []), (0, [1]), (0, [1] * 16)):
            row = counted_row()
            handed = list(words)
            told = changed(row, at, handed)
            again = changed(row, at, handed)
            with self.subTest(at=at, words=words):
                self.assertIsNot(told, row)
                self.assertIsNot(told, handed)
                self.assertIsNot(told, again)
                told[0] = 555
                told.append(1)
                self.assertEqual(row, counted_row())
                self.assertEqual(handed, words)
                self.assertEqual(changed(row, at, handed), again)

    def test_what_is_handed_in_stays_and_nothing_hangs_on_it(self):
        row = counted_row()
        words = [1, 2, 3]
        told = changed(row, 4, words)
        self.assertEqual(row, counted_row())
        self.assertEqual(words, [1, 2, 3])
        row[0] = 9
        words[0] = 9
        self.assertEqual(told, [101, 102, 103, 104, 1, 2, 3, 108, 109, 110, 111, 112, 113, 114, 115, 116])

    def test_a_row_put_into_itself(self):
        row = counted_row()
        self.assertEqual(changed(row, 0, row), counted_row())
        self.assertEqual(row, counted_row())


class InterfaceTest(unittest.TestCase):
    def test_names_and_arguments(self):
        wanted = {"is_word": ["thing"], "is_row": ["thing"], "empty_row": [], "changed": ["row", "at", "words"]}
        for name, arguments in wanted.items():
            with self.subTest(name=name):
                self.assertEqual(list(inspect.signature(getattr(rows, name)).parameters), arguments)


if __name__ == "__main__":
    unittest.main()
