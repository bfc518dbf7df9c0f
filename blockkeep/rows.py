"""Words and rows: what a block of the disk holds."""

ROW_WORDS = 16
MOST_WORD = 999999999


def is_whole(thing, least, most):
    # Python takes True and False for whole numbers; here they are none.
    return isinstance(thing, int) and not isinstance(thing, bool) and least <= thing <= most


def is_word(thing):
    return is_whole(thing, 0, MOST_WORD)


def are_words(thing):
    return isinstance(thing, list) and all([is_word(word) for word in thing])


def is_row(thing):
    return are_words(thing) and len(thing) == ROW_WORDS


def empty_row():
    return [0] * ROW_WORDS


def changed(row, at, words):
    return row[:at] + words + row[at + len(words):]
