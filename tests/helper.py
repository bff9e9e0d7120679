"""What several tests need: samples, made programs, a direct reading of programs, and what runs cost."""

import random

JOIN_TEXT = (
    "kind Row { Nil ( ) Cons ( whole , Row ) } def join ( Row a , Row b ) : Row { match a { Nil ( ) { give b } "
    "Cons ( x , xs ) { give Cons ( x , join ( xs , b ) ) } } }"
)
ROW = ("Row", (("Nil", ()), ("Cons", ("whole", "Row"))))
BOX = ("Box", (("Box", ("whole",)),))
JOIN_ROWS = (
    ("match", 0, (("Nil", (), 1), ("Cons", (2, 3), 2))),
    ("give", 1),
    ("call", 4, "join", (3, 1)),
    ("make", 5, "Cons", (2, 4)),
    ("give", 5),
)
JOIN = ((ROW,), (("join", ("Row", "Row"), "Row", JOIN_ROWS),))
JOIN_PRICES = (((2, 0, 0, 0), (2, 0, 0, 0), (5, 0, 2, 2), None, (9, 3, 1, 0)),)


class Other:
    """An object of a class that nothing knows, equal to everything."""

    def __eq__(self, other):
        return True

    def __hash__(self):
        return 7


# Objects that are no program, core, text, tuple, str or integer of any promise.
STRANGE = (None, True, False, -1, 7, "", "x", "(", b"", b"x", [], {}, (), (1,), ("x",), [()], {"a": 1}, {1}, Other(),
           Other, len, (Other(),), (Other(),) * 2, (Other(),) * 3, (Other(),) * 4, ((),), ((), (), ()), ([], []), ((), []), ([], ()), ((None,), ()), ((), (None,)))


def nested(depth, inner=()):
    """A tuple that many levels deep."""
    for _ in range(depth):
        inner = (inner,)
    return inner


def core_of(rows, params=(), result="whole", kinds=(ROW, BOX), name="f", more=()):
    """A core whose first function has these rows."""
    return (kinds, ((name, params, result, tuple(rows)),) + tuple(more))


def row_words(numbers):
    """The words of a Row."""
    words = ()
    for number in numbers:
        words += ("Cons", number)
    return words + ("Nil",)


def places_of(thing, ahead=()):
    """The ways of indexes to all parts of nested tuples, the thing itself among them."""
    yield ahead
    if isinstance(thing, tuple):
        for at, part in enumerate(thing):
            yield from places_of(part, ahead + (at,))


def part_at(thing, place):
    for at in place:
        thing = thing[at]
    return thing


def with_part(thing, place, part):
    """The nested tuples with another part at a place."""
    if not place:
        return part
    at = place[0]
    return thing[:at] + (with_part(thing[at], place[1:], part),) + thing[at + 1:]


MADE_KINDS = (
    ROW,
    ("Tree", (("Leaf", ()), ("Node", ("Tree", "whole", "Tree")))),
    BOX,
    ("Pair", (("Pair", ("Box", "Row")),)),
)
MAKERS = dict(MADE_KINDS)
FIELDS = {maker: fields for makers in MAKERS.values() for maker, fields in makers}


class Maker:
    """Makes checked programs and values, the same ones for the same seed."""

    def __init__(self, seed):
        self.random = random.Random(seed)
        self.many = 0
        self.budget = 0
        self.heads = []

    def program(self):
        for at in range(self.random.randint(1, 3)):
            params = [self.kind() for _ in range(self.random.randint(0, 3))]
            self.heads.append((f"f{at}", params, self.kind()))
        functions = []
        for name, kinds, result in self.heads:
            self.many = 0
            self.budget = self.random.randint(3, 14)
            params = tuple((self.fresh(), kind) for kind in kinds)
            functions.append((name, params, result, self.body(dict(params), result, 0)))
        return MADE_KINDS, tuple(functions)

    def kind(self):
        return self.random.choice(["whole", "whole", "Row", "Row", "Tree", "Box", "Pair"])

    def fresh(self):
        self.many += 1
        return f"v{self.many}"

    def body(self, reach, result, depth):
        self.budget -= 1
        chance = self.random.random()
        if self.budget <= 0 or depth > 7 or chance > 0.9:
            return ("give", self.term(reach, result, 2))
        if chance < 0.3:
            kind, name = self.kind(), self.fresh()
            return ("let", name, self.term(reach, kind, 2), self.body({**reach, name: kind}, result, depth + 1))
        if chance < 0.5:
            sides = (self.term(reach, "whole", 1), self.term(reach, "whole", 1))
            return ("if",) + sides + (self.body(reach, result, depth + 1), self.body(reach, result, depth + 1))
        return self.match(reach, result, depth)

    def match(self, reach, result, depth):
        found = [name for name, kind in reach.items() if kind != "whole"]
        if found and self.random.random() < 0.8:
            name = self.random.choice(found)
            kind, term = reach[name], ("name", name)
        else:
            kind = self.random.choice(["Row", "Tree", "Box", "Pair"])
            term = self.term(reach, kind, 2)
        branches = []
        for maker, fields in MAKERS[kind]:
            names = tuple(self.fresh() for _ in fields)
            inside = {**reach, **dict(zip(names, fields))}
            branches.append((maker, names, self.body(inside, result, depth + 1)))
        return ("match", term, tuple(branches))

    def term(self, reach, kind, depth):
        found = [name for name, other in reach.items() if other == kind]
        chance = self.random.random()
        if found and chance < 0.45:
            return ("name", self.random.choice(found))
        heads = [head for head in self.heads if head[2] == kind]
        if heads and depth > 0 and chance < 0.6:
            name, params, _ = self.random.choice(heads)
            return ("call", name, tuple(self.term(reach, param, depth - 1) for param in params))
        if kind != "whole":
            makers = MAKERS[kind]
            maker, fields = makers[0] if depth <= 0 else self.random.choice(makers)
            return ("make", maker, tuple(self.term(reach, field, depth - 1) for field in fields))
        if depth <= 0 or chance < 0.75:
            return ("num", self.random.choice([0, 1, 2, -1, 5, 10 ** 12]))
        if chance < 0.92:
            sides = (self.term(reach, kind, depth - 1), self.term(reach, kind, depth - 1))
            return ("op", self.random.choice("+-")) + sides
        return ("times", self.random.choice([0, 2, -3, 10 ** 6]), self.term(reach, kind, depth - 1))

    def value(self, kind, depth=4):
        """The words of a value."""
        if kind == "whole":
            return (self.random.choice([0, 1, 2, 3, -4, 10 ** 15]),)
        makers = MAKERS[kind]
        maker, fields = makers[0] if depth <= 0 or self.random.random() < 0.35 else makers[-1]
        words = (maker,)
        for field in fields:
            words += self.value(field, depth - 1)
        return words


class Spent(Exception):
    """A direct reading has passed too many bodies."""


class Reading:
    """Tells a program's values straight from its bodies; a made value is (maker, fields)."""

    def __init__(self, program, bodies):
        self.functions = {function[0]: function for function in program[1]}
        self.bodies = bodies

    def call(self, name, given):
        _, params, _, body = self.functions[name]
        return self.body(body, dict(zip([param for param, _ in params], given)))

    def body(self, body, worth):
        self.bodies -= 1
        if self.bodies < 0:
            raise Spent
        if body[0] == "let":
            return self.body(body[3], {**worth, body[1]: self.term(body[2], worth)})
        if body[0] == "if":
            less = self.term(body[1], worth) < self.term(body[2], worth)
            return self.body(body[3] if less else body[4], worth)
        value = self.term(body[1], worth)
        if body[0] == "give":
            return value
        maker, names, inner = [branch for branch in body[2] if branch[0] == value[0]][0]
        return self.body(inner, {**worth, **dict(zip(names, value[1]))})

    def term(self, term, worth):
        if term[0] == "num":
            return term[1]
        if term[0] == "name":
            return worth[term[1]]
        if term[0] == "times":
            return term[1] * self.term(term[2], worth)
        if term[0] == "op":
            left, right = self.term(term[2], worth), self.term(term[3], worth)
            return left + right if term[1] == "+" else left - right
        given = tuple(self.term(part, worth) for part in term[2])
        return (term[1], given) if term[0] == "make" else self.call(term[1], given)


def words_of(value):
    """The words of a value of a Reading."""
    if isinstance(value, int):
        return (value,)
    words = (value[0],)
    for part in value[1]:
        words += words_of(part)
    return words


def value_of(words):
    """The value of a Reading that the words tell."""
    words = list(words)

    def read():
        word = words.pop(0)
        return word if isinstance(word, int) else (word, tuple([read() for _ in FIELDS[word]]))

    return read()


def price_of(core, bill):
    """The plain price of a run: the table of [24] and the rule at the end of [25]."""
    times = {(place, row): many for place, row, many in bill}
    price = 0
    for place, row, many in bill:
        params, rows = core[1][place][1], core[1][place][3]
        word, last = rows[row][0], rows[row][-1]
        given = len(last) if isinstance(last, tuple) else 0
        table = {"num": 2, "add": 4, "sub": 4, "times": 3, "make": 4 + 2 * given, "call": given + 2, "less": 3,
                 "match": 3, "give": 3, "go": given + 2}
        price += many * table[word]
        if row == 0:
            price += many * (1 + len(params))
        if word == "match":
            price += sum(2 * len(parts) * times.get((place, start), 0) for _, parts, start in last)
    return price


def counts_of(core, bill):
    """What no step may make more: all rows, the event words of [17], and the plain price."""
    counts = {"less": 0, "match": 0, "call or go": 0, "give or go": 0, "rows": 0, "price": price_of(core, bill)}
    for place, row, many in bill:
        word = core[1][place][3][row][0]
        counts["rows"] += many
        for key in counts:
            if word in key.split(" or "):
                counts[key] += many
    return counts


def all_steps(core, rules):
    """All steps of the rules, at all functions and rows."""
    for name, _, _, rows in core[1]:
        for at in range(len(rows)):
            for rule in rules:
                if rule != "reuse":
                    yield (rule, name, at)
                    continue
                for other in range(len(rows)):
                    yield (rule, name, at, other)


NOT_OPEN = ("fold", "decide", "drop", "reuse", "tail")
