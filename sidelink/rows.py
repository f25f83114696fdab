"""The desk's rows: a text read as a tuple of its word and its numbers, and what is told shown as a text."""

from sidelink.errors import NoRow

# How many numbers stand behind each word: keys and worths, and the numbers of hands and deeds.
DEED_WORDS = {"find": 1, "put": 2, "cut": 1, "stretch": 2}
OTHER_WORDS = {"move": 1, "finish": 0, "answer": 1, "table": 0, "sound": 0, "pack": 0}


def read_row(row):
    words = row.split(" ")
    word = words[0]
    texts = words[1:]
    if DEED_WORDS.get(word) == len(texts):
        return read_deed(word, texts)
    if OTHER_WORDS.get(word) == len(texts):
        return (word,) + tuple([read_short(text) for text in texts])
    raise NoRow("no row has this form")


def is_deed(told):
    return told[0] in DEED_WORDS


def read_deed(word, texts):
    deed = (word,) + tuple([read_key(text) for text in texts])
    if word == "stretch" and deed[1] >= deed[2]:
        raise NoRow("a stretch begins below its high")
    return deed


def read_key(text):
    number = read_number(text, 31)
    if abs(number) > 10 ** 30:
        raise NoRow("this number is too great")
    return number


def read_short(text):
    number = read_number(text, 3)
    if number < 0:
        raise NoRow("this number is below 0")
    return number


def read_number(text, most):
    figures = text[1:] if text.startswith("-") else text
    # Figures are counted ahead of int, which refuses texts of some thousand figures.
    if not 0 < len(figures) <= most or not all([sign in "0123456789" for sign in figures]):
        raise NoRow("this is no number")
    if figures.startswith("0") and text != "0":
        raise NoRow("a number has no noughts ahead")
    return int(text)


def shown(part):
    if part is None:
        return "-"
    if isinstance(part, (list, tuple)):
        return shown_pairs(part)
    return str(part)


def shown_pairs(pairs):
    if not pairs:
        return "-"
    return ",".join([str(pair[0]) + ":" + str(pair[1]) for pair in pairs])
