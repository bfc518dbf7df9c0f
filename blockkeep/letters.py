"""Names of 1 to 12 small letters, and the three words by which they are written."""

from blockkeep.errors import BadName

LETTERS = "abcdefghijklmnopqrstuvwxyz"
MOST_LETTERS = 12
# What the four letters of a word count: powers of 27, so that nought stands where no letter is.
WEIGHTS = (19683, 729, 27, 1)


def is_name(thing):
    if not isinstance(thing, str) or not 1 <= len(thing) <= MOST_LETTERS:
        return False
    return all([sign in LETTERS for sign in thing])


def name_words(name):
    if not is_name(name):
        raise BadName("a name has 1 to 12 small letters")
    step = len(WEIGHTS)
    return [word_of(name[begin:begin + step]) for begin in range(0, MOST_LETTERS, step)]


def name_of(words):
    name = "".join([letters_of(word) for word in words])
    # The letters alone don't tell of noughts ahead of them, nor of a word that is too great.
    if name_words(name) != words:
        raise BadName("the words write no name")
    return name


def word_of(letters):
    return sum([(LETTERS.find(letter) + 1) * weight for letter, weight in zip(letters, WEIGHTS)])


def letters_of(word):
    places = [word // weight % (len(LETTERS) + 1) for weight in WEIGHTS]
    return "".join([LETTERS[place - 1] for place in places if place > 0])
