"""The terms by which the code judge describes variables, registers and words.

A number is itself. Every other term is a tuple of its index alone: terms that are built alike have one index, so that
two terms are equal just if they are equal as tuples, however deep they are and however often their parts are shared.
What is told of things on a way stands in facts: for a term the index and the fields of the maker that it is known to
be of.
"""

from juststeps.kinds import makers_by_kind
from juststeps.names import WHOLE


class Terms:
    """Terms of one function; parts and kinds have, for each index, how it is built and its kind, None for no kind."""

    def __init__(self, core):
        self.makers = makers_by_kind(core[0])
        self.parts = []
        self.kinds = []
        self.found = {}

    def term(self, parts, kind):
        """The term that is built so."""
        if (parts, kind) not in self.found:
            self.found[(parts, kind)] = (len(self.parts),)
            self.parts.append(parts)
            self.kinds.append(kind)
        return self.found[(parts, kind)]

    def param(self, place, kind):
        return self.term(("param", place), kind)

    def result(self, row, kind):
        return self.term(("result", row), kind)

    def tag(self, thing):
        return self.term(("tag", thing), None)

    def kind(self, term):
        return WHOLE if isinstance(term, int) else self.kinds[term[0]]

    def is_whole(self, term):
        return self.kind(term) == WHOLE

    def is_tag(self, term):
        return not isinstance(term, int) and self.parts[term[0]][0] == "tag"

    def summed(self, word, a, b):
        """The sum of two terms for the word add, their difference for the word sub."""
        if isinstance(a, int) and isinstance(b, int):
            return a + b if word == "add" else a - b
        return self.term((word, a, b), WHOLE)

    def times(self, a, n):
        return a * n if isinstance(a, int) else self.term(("times", a, n), WHOLE)

    def fact(self, thing, facts):
        """The index and the fields of the maker that a thing is known to be of, or None."""
        makers = self.makers[self.kind(thing)]
        return (0, makers[0][1]) if len(makers) == 1 else facts.get(thing)

    def cell(self, words, facts):
        """The cell of the words, or the known thing whose words they are."""
        thing = self.thing_of(words)
        if thing is not None:
            fact = self.fact(thing, facts)
            if fact is not None and tuple(words) == self.words_of(thing, fact):
                return thing
        return self.term(("cell",) + tuple(words), None)

    def thing_of(self, words):
        """The thing of which the word 1 is the word 1, or None."""
        if len(words) < 2 or isinstance(words[1], int):
            return None
        parts = self.parts[words[1][0]]
        return parts[1] if parts[0] == "word" and parts[2] == 1 else None

    def words_of(self, thing, fact):
        """All words of a thing of which a fact is known, the maker's index among them."""
        index, fields = fact
        return (index,) + tuple([self.term(("word", thing, o), kind) for o, kind in enumerate(fields, start=1)])

    def taken(self, term, o, facts):
        """The word o of a cell or of a known thing, or the tag of a thing that is not known; None if there is none."""
        if isinstance(term, int):
            return None
        parts = self.parts[term[0]]
        if parts[0] == "cell":
            return parts[1 + o] if 1 + o < len(parts) else None
        if self.kinds[term[0]] is None or self.is_whole(term):
            return None
        fact = self.fact(term, facts)
        if fact is None:
            return self.tag(term) if o == 0 else None
        words = self.words_of(term, fact)
        return words[o] if o < len(words) else None

    def as_known(self, term, facts):
        """The term, or the number that it is, if it is the tag of a thing that has come to be known."""
        parts = self.parts[term[0]]
        if parts[0] != "tag":
            return term
        fact = self.fact(parts[1], facts)
        return term if fact is None else fact[0]
