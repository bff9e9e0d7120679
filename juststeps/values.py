"""Values of runs, and the words that tell them outside.

An integer is itself; a made value is a tuple of its maker's name and its fields' values. As values may be as deep as
a run is long, nothing here calls itself.
"""

from juststeps.names import WHOLE, is_integer, is_tuple


def are_words(makers, kind, thing, most):
    """Whether any object is a tuple of at most so many words of one value of the kind."""
    if not is_tuple(thing, 1, most):
        return False
    wanted = [kind]
    for word in thing:
        if not wanted:
            return False
        fields = _fields_of(makers, wanted.pop(), word)
        if fields is None:
            return False
        wanted.extend(fields[::-1])
    return not wanted


def _fields_of(makers, kind, word):
    """The kinds of what the words behind a word tell, if it tells a value of the kind; else None."""
    if kind == WHOLE:
        return () if is_integer(word) else None
    if not isinstance(word, str) or word not in makers or makers[word][0] != kind:
        return None
    return makers[word][1]


def value_of(makers, words):
    """The value that the words tell, read from behind, so that fields are made ahead of what they stand in."""
    made = []
    for word in words[::-1]:
        if isinstance(word, str):
            fields = [made.pop() for _ in makers[word][1]]
            made.append((word,) + tuple(fields))
        else:
            made.append(word)
    return made[0]


def words_of(value, most):
    """The words of a value, or None if they are more than most; parts that are shared may be very many."""
    words = []
    waiting = [value]
    while waiting:
        if len(words) == most:
            return None
        part = waiting.pop()
        if isinstance(part, tuple):
            words.append(part[0])
            waiting.extend(part[:0:-1])
        else:
            words.append(part)
    return tuple(words)
