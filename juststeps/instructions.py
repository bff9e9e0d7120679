"""Instructions of the machine: what is one, and its line in the text of an image."""

from juststeps.names import first_word, is_between, is_tuple

# For each word what stands behind it, a sign for each part: a sign of BOUNDS, j an address, c the name of a start.
FORMS = {
    "set": "rn",
    "copy": "rr",
    "add": "rrr",
    "sub": "rrr",
    "times": "rrf",
    "new": "rw",
    "put": "ror",
    "take": "rro",
    "push": "m",
    "drop": "m",
    "save": "ir",
    "load": "ri",
    "less": "rrj",
    "jump": "j",
    "call": "c",
    "go": "c",
    "return": "",
}
BOUNDS = {
    "r": (0, 7),
    "n": (-10 ** 12, 10 ** 12),
    "f": (-10 ** 6, 10 ** 6),
    "w": (1, 64),
    "m": (0, 400),
    "o": (0, 63),
    "i": (0, 399),
}
MOST_ENTRIES = 8
MOST_DIGITS = 13


def is_instruction(thing, size, names):
    """Whether any object is an instruction of a code of that size, with the names of starts as keys of a dict."""
    word = first_word(thing)
    if word == "table":
        return len(thing) == 3 and _is_part("r", thing[1], size, names) and _are_entries(thing[2], size)
    if word not in FORMS or len(thing) != 1 + len(FORMS[word]):
        return False
    return all([_is_part(sign, part, size, names) for sign, part in zip(FORMS[word], thing[1:])])


def _is_part(sign, part, size, names):
    if sign == "c":
        return isinstance(part, str) and part in names
    if sign == "j":
        return is_between(part, 0, size - 1)
    least, most = BOUNDS[sign]
    return is_between(part, least, most)


def _are_entries(thing, size):
    return is_tuple(thing, 1, MOST_ENTRIES) and all([is_between(entry, 0, size - 1) for entry in thing])


def line_of(instruction):
    """The line of an instruction."""
    if instruction[0] == "table":
        parts = instruction[:2] + instruction[2]
    else:
        parts = instruction
    return " ".join([str(part) for part in parts])


def instruction_of(line):
    """What has the form of an instruction if the line is that of one; else None, or what is no instruction."""
    words = line.split(" ")
    if words[0] == "table" and len(words) > 1:
        return "table", numeral(words[1]), tuple([numeral(word) for word in words[2:]])
    if words[0] not in FORMS or len(words) != 1 + len(FORMS[words[0]]):
        return None
    parts = [word if sign == "c" else numeral(word) for sign, word in zip(FORMS[words[0]], words[1:])]
    return (words[0],) + tuple(parts)


def numeral(word):
    """The integer that a word writes in the one way that is let, or None."""
    digits = word[1:] if word[:1] == "-" else word
    # Longer rows of digits are beyond all bounds, and some of them Python itself refuses.
    if not digits.isascii() or not digits.isdigit() or len(digits) > MOST_DIGITS:
        return None
    if digits[0] == "0" and word != "0":
        return None
    return int(word)
