import inspect
import unittest

from blockkeep import letters
from blockkeep.errors import BadName
from blockkeep.letters import is_name, name_of, name_words

ALPHABET = "abcdefghijklmnopqrstuvwxyz"
# Names and their words, reckoned by hand.
WRITTEN = [
    ("a", [19683, 0, 0]),
    ("z", [511758, 0, 0]),
    ("ab", [19683 + 2 * 729, 0, 0]),
    ("abc", [19683 + 2 * 729 + 3 * 27, 0, 0]),
    ("abcd", [21226, 0, 0]),
    ("abcde", [21226, 5 * 19683, 0]),
    ("aaaa", [20440, 0, 0]),
    ("zzzz", [531440, 0, 0]),
    ("aaaaaaaa", [20440, 20440, 0]),
    ("aaaaaaaaa", [20440, 20440, 19683]),
    ("aaaaaaaaaaaa", [20440, 20440, 20440]),
    ("zzzzzzzzzzzz", [531440, 531440, 531440]),
    ("zyxwvutsrqpo", [26 * 19683 + 25 * 729 + 24 * 27 + 23, 22 * 19683 + 21 * 729 + 20 * 27 + 19,
                      18 * 19683 + 17 * 729 + 16 * 27 + 15]),
]
NO_SIGNS = ["A", "Z", "0", "9", " ", "\n", "\r", "\t", "\0", "/", ".", "-", "_", "`", "{", "@", "\u00e4", "\u00df",
            "\u0430", "\u0101", "\uff41", "\U0001d41a", "\ud800", "\u00aa"]
NO_TEXTS = [None, 0, 5, True, False, [], ["a"], ["a", "b"], (), ("a",), {}, {"a": 1}, 1.5, b"a", [1, 2, 3]]


def some_names():
    """Names of each length, each letter at each place, and those of one letter alone."""
    turned = [(ALPHABET * 2)[begin:begin + length] for begin in range(26) for length in range(1, 13)]
    return turned + ["a" * length for length in range(1, 13)] + ["z" * length for length in range(1, 13)]


def no_names():
    """Texts that are no names for one sign, at each place of texts of each length."""
    texts = ["", "a" * 13, "z" * 13, ALPHABET, "a" * 100]
    for sign in NO_SIGNS:
        for length in range(1, 13):
            texts.extend(["b" * at + sign + "b" * (length - 1 - at) for at in range(length)])
    texts.extend([text + "\n" for text in ("a", "abcd", "a" * 11, "a" * 12)])
    return texts


class IsNameTest(unittest.TestCase):
    def test_names(self):
        for name in some_names():
            with self.subTest(name=name):
                self.assertIs(is_name(name), True)

    def test_texts_that_are_no_names(self):
        for text in no_names():
            with self.subTest(text=ascii(text)):
                self.assertIs(is_name(text), False)

    def test_things_that_are_no_texts(self):
        for thing in NO_TEXTS:
            with self.subTest(thing=thing):
                self.assertIs(is_name(thing), False)

    def test_a_list_handed_in_stays(self):
        thing = ["a", "b"]
        is_name(thing)
        self.assertEqual(thing, ["a", "b"])


class NameWordsTest(unittest.TestCase):
    def test_written_out(self):
        for name, words in WRITTEN:
            with self.subTest(name=name):
                self.assertEqual(name_words(name), words)

    def test_each_letter_at_each_place(self):
        for at in range(12):
            for number, letter in enumerate(ALPHABET, start=1):
                name = "a" * at + letter
                words = [0, 0, 0]
                for place in range(at + 1):
                    value = number if place == at else 1
                    words[place // 4] += value * 27 ** (3 - place % 4)
                with self.subTest(name=name):
                    self.assertEqual(name_words(name), words)

    def test_a_new_list_of_three_numbers(self):
        told = name_words("abc")
        self.assertIs(type(told), list)
        self.assertEqual([type(word) for word in told], [int, int, int])
        self.assertIsNot(told, name_words("abc"))
        told[0] = 5
        told.pop()
        self.assertEqual(name_words("abc"), [21222, 0, 0])

    def test_names_apart_have_words_apart(self):
        names = set(some_names())
        self.assertEqual(len({tuple(name_words(name)) for name in names}), len(names))

    def test_bad_name(self):
        for thing in no_names() + NO_TEXTS:
            with self.subTest(thing=ascii(thing)):
                self.assertRaises(BadName, name_words, thing)


class NameOfTest(unittest.TestCase):
    def check_bad(self, words):
        handed = list(words)
        with self.subTest(words=words):
            self.assertRaises(BadName, name_of, handed)
            self.assertEqual(handed, words)

    def test_written_out(self):
        for name, words in WRITTEN:
            handed = list(words)
            with self.subTest(name=name):
                told = name_of(handed)
                self.assertEqual(told, name)
                self.assertIs(type(told), str)
                self.assertEqual(handed, words)

    def test_there_and_back(self):
        for name in some_names():
            with self.subTest(name=name):
                self.assertEqual(name_of(name_words(name)), name)

    def test_three_noughts(self):
        self.check_bad([0, 0, 0])

    def test_a_word_beyond_those_of_four_letters(self):
        good = name_words("abcdefghijkl")
        for at in range(3):
            for beyond in (531441, 531442, 531441 + good[at], 531441 * 2 + good[at], 999999999):
                self.check_bad(good[:at] + [beyond] + good[at + 1:])
        self.check_bad([531441, 0, 0])
        self.check_bad([531441 + 19683, 0, 0])
        self.check_bad([0, 0, 531441])

    def test_a_nought_ahead_of_a_letter_within_a_word(self):
        weights = [19683, 729, 27, 1]
        for marks in range(1, 16):
            letters_there = [marks // 8 % 2, marks // 4 % 2, marks // 2 % 2, marks % 2]
            word = sum(there * weight for there, weight in zip(letters_there, weights))
            whole = letters_there == sorted(letters_there, reverse=True)
            for ahead in range(3):
                words = [20440] * ahead + [word] + [0] * (2 - ahead)
                if whole:
                    self.assertEqual(name_of(words), "a" * (4 * ahead + sum(letters_there)))
                else:
                    self.check_bad(words)

    def test_a_nought_between_words(self):
        for short in ("a", "ab", "abc"):
            word = name_words(short)[0]
            for behind in (19683, 20440, 531440):
                self.check_bad([word, behind, 0])
                self.check_bad([word, 0, behind])
                self.check_bad([20440, word, behind])
        for behind in (19683, 20440, 531440):
            self.check_bad([0, behind, 0])
            self.check_bad([0, 0, behind])
            self.check_bad([0, behind, behind])
            self.check_bad([20440, 0, behind])

    def test_all_small_words(self):
        # Below 729 a word has its first two places empty, so none of these begins a name.
        for word in range(729):
            self.check_bad([word, 0, 0])
        for word in range(1, 729):
            self.check_bad([20440, word, 0])
            self.check_bad([20440, 20440, word])


class InterfaceTest(unittest.TestCase):
    def test_names_and_arguments(self):
        for name, arguments in {"is_name": ["thing"], "name_words": ["name"], "name_of": ["words"]}.items():
            with self.subTest(name=name):
                self.assertEqual(list(inspect.signature(getattr(letters, name)).parameters), arguments)


if __name__ == "__main__":
    unittest.main()
