"""Values in the machine's heap: laid into it from the words that tell them, and read out of it."""

from juststeps.names import WHOLE
from juststeps.plain import MOST_TOLD


def laid(makers, kinds, args):
    """(heap, words): the heap into which the arguments, of the kinds, are laid, and the word of each of them."""
    heap = []
    return heap, [_lay(makers, heap, kind, words) for kind, words in zip(kinds, args)]


def _lay(makers, heap, kind, words):
    """Lays one value behind the heap's end and returns its word."""
    # The first word that is waited for is the value's own; it has a place of its own, outside of the heap.
    own = [0]
    waiting = [(own, 0, kind)]
    for word in words:
        target, place, wanted = waiting.pop()
        if wanted == WHOLE:
            target[place] = word
            continue
        index = [maker for maker, _ in makers[wanted]].index(word)
        fields = makers[wanted][index][1]
        target[place] = len(heap)
        behind = len(heap) + 1
        heap.extend([index] + [0] * len(fields))
        waiting.extend([(heap, behind + at, field) for at, field in enumerate(fields)][::-1])
    return own[0]


def read_words(makers, heap, kind, word):
    """("ended", the words of the value for which a word stands), None for too many; or ("wild", None)."""
    words = []
    waiting = []
    while True:
        told = _told(makers, heap, kind, word)
        if told is None:
            return "wild", None
        words.append(told)
        if kind != WHOLE:
            fields = makers[kind][heap[word]][1]
            waiting.extend([(field, word + 1 + at) for at, field in enumerate(fields)][::-1])
        if not waiting:
            return "ended", tuple(words)
        if len(words) == MOST_TOLD:
            return "ended", None
        kind, place = waiting.pop()
        if place >= len(heap):
            return "wild", None
        word = heap[place]


def _told(makers, heap, kind, word):
    """The integer, or the maker's name, for which a word stands itself; None if it stands for nothing."""
    if kind == WHOLE:
        return word
    if not 0 <= word < len(heap) or not 0 <= heap[word] < len(makers[kind]):
        return None
    return makers[kind][heap[word]][0]
