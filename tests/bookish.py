"""Books for tests: drawn ones, a second reading of [42] to [45], and runs whose calls are all kept."""

from tests.helper import MADE_KINDS, Maker, value_of

NUMBERS = (0, 1, -1, 2, 3, -5, 10 ** 20)


def measure_of(core, measures, number, value):
    """The measure straight from [38], of a value (maker, fields) or an integer."""
    if number == 0:
        return value
    kind, rows = measures[number - 1]
    maker, fields = value
    const, terms = rows[[name for name, _ in dict(core[0])[kind]].index(maker)]
    return const + sum(times * measure_of(core, measures, inner, fields[field]) for field, inner, times in terms)


class Drawer:
    """Draws measures, books, templates and args for cores, the same ones for the same seed."""

    def __init__(self, seed, most=None):
        self.maker = Maker(seed)
        self.random = self.maker.random
        self.most = most

    def number(self):
        if self.most is None:
            return self.random.choice(NUMBERS)
        return self.random.randint(-self.most, self.most)

    def measures(self, kinds=MADE_KINDS, many=None):
        chosen = [self.random.choice(kinds) for _ in range(self.random.randint(0, 4) if many is None else many)]
        numbered = ["whole"] + [name for name, _ in chosen]
        measures = []
        for name, makers in chosen:
            rows = []
            for _, fields in makers:
                pairs = [(field, number) for field, kind in enumerate(fields)
                         for number, other in enumerate(numbered) if other == kind]
                terms = tuple(pair + (self.random.choice((1, 1, 2, -1)),) for pair in pairs if self.random.random() < 0.5)
                rows.append((self.random.choice((0, 1, 1, 2, -1)), terms))
            measures.append((name, tuple(rows)))
        return tuple(measures)

    def form(self, measures, params, share=0.5):
        pairs = self.pairs(measures, params)
        terms = tuple(pair + (self.number(),) for pair in pairs if self.random.random() < share)
        return self.number(), tuple(term for term in terms if term[2] != 0)

    def pairs(self, measures, params):
        return [(param, number) for param, kind in enumerate(params) for number in numbers_of(measures, kind)]

    def claim(self, core, measures):
        name, params, result, _ = self.random.choice(core[1])
        out = tuple((number, self.number()) for number in numbers_of(measures, result) if self.random.random() < 0.5)
        out = tuple(term for term in out if term[1] != 0)
        steps, words = self.random.choice((0, 1, 1, 2)), self.random.choice((0, 0, 1, 3))
        return name, steps, words, out, self.random.choice(("most", "least", "just")), self.form(measures, params)

    def book(self, core, measures=None, claims=None):
        if measures is None:
            measures = self.measures(core[0])
        needs = tuple(tuple(self.form(measures, function[1]) for _ in range(self.random.choice((0, 0, 1, 2))))
                      for function in core[1])
        many = self.random.randint(0, 5) if claims is None else claims
        ranks = tuple((self.random.choice((0, 1, 1, 100)), self.form(measures, function[1])) for function in core[1])
        rooms = tuple(self.form(measures, function[1]) for function in core[1])
        return (measures, needs, tuple(self.claim(core, measures) for _ in range(many)),
                self.random.choice((None, ranks, ranks)), self.random.choice((None, rooms, rooms)))

    def prices(self, core):
        """Drawn prices; one event row of eight has none."""
        def price(row):
            if row[0] in PLAIN or self.random.random() < 0.12:
                return None
            return tuple(self.random.randint(0, 9) for _ in range(4))

        return tuple(tuple(price(row) for row in function[3]) for function in core[1])

    def template(self, core, measures, claims):
        def shape(function):
            if self.random.random() < 0.3:
                return None
            outs = tuple(number for number in numbers_of(measures, function[2]) if self.random.random() < 0.4)
            return outs, tuple(pair for pair in self.pairs(measures, function[1]) if self.random.random() < 0.5)

        shapes = tuple(shape(function) for function in core[1])
        while all(each is None for each in shapes):
            shapes = tuple(shape(function) for function in core[1])
        return (self.random.choice(("most", "least", "just")), self.random.choice((0, 1, 2)),
                self.random.choice((0, 0, 1)), shapes)


PLAIN = ("num", "add", "sub", "times", "make")


def numbers_of(measures, kind):
    return [number for number, other in enumerate(["whole"] + [name for name, _ in measures]) if other == kind]


def summed(*parts):
    """The sum of pairs (times, {atom or None: number}), without what is 0."""
    found = {}
    for times, form in parts:
        for atom, number in form.items():
            found[atom] = found.get(atom, 0) + times * number
    return {atom: number for atom, number in found.items() if number != 0}


def form_of(found):
    return found.get(None, 0), tuple(sorted((atom, n) for atom, n in found.items() if atom is not None and n != 0))


class Idle(Exception):
    """The row that is read is idle."""


class Row:
    """One row read by itself, from row 0 on: what is known at it, and what is expanded there."""

    def __init__(self, core, measures, function, at):
        self.core, self.measures, self.rows, self.at = core, measures, function[3], at
        self.whole, self.root, self.known = {}, {}, {}
        self.way = self.way_to(0)
        for here, there in zip(self.way, self.way[1:]):
            self.gather(here, self.rows[here], there)

    def way_to(self, here):
        """The one way of goings on from a row that ends at the row."""
        if here == self.at:
            return [here]
        row = self.rows[here]
        onward = {"less": lambda: [here + 1, row[3]], "match": lambda: [branch[2] for branch in row[2]],
                  "give": lambda: [], "go": lambda: []}.get(row[0], lambda: [here + 1])()
        for there in onward:
            rest = self.way_to(there)
            if rest:
                return [here] + rest
        return []

    def gather(self, here, row, there):
        if row[0] in PLAIN and row[0] != "make":
            self.whole[row[1]] = row
        elif row[0] == "make":
            self.known[row[1]] = row[2:]
        elif row[0] == "less":
            difference = summed((1, self.expand(row[1], 0)), (-1, self.expand(row[2], 0)))
            if not any(atom is not None for atom in difference):
                if there != (here + 1 if difference.get(None, 0) < 0 else row[3]):
                    raise Idle
        elif row[0] == "match":
            maker, variables, _ = [branch for branch in row[2] if branch[2] == there][0]
            root = self.root_of(row[1])
            if root not in self.known:
                self.known[root] = (maker, variables)
            elif self.known[root][0] != maker:
                raise Idle
            else:
                for variable, arg in zip(variables, self.known[root][1]):
                    self.root[variable] = self.root_of(arg)

    def root_of(self, variable):
        while variable in self.root:
            variable = self.root[variable]
        return variable

    def expand(self, variable, number):
        variable = self.root_of(variable)
        if number == 0 and variable in self.whole:
            row = self.whole[variable]
            if row[0] == "num":
                return {None: row[2]}
            if row[0] == "times":
                return summed((row[3], self.expand(row[2], 0)))
            return summed((1, self.expand(row[2], 0)), (1 if row[0] == "add" else -1, self.expand(row[3], 0)))
        if number > 0 and variable in self.known:
            maker, args = self.known[variable]
            kind, rows = self.measures[number - 1]
            const, terms = rows[[name for name, _ in dict(self.core[0])[kind]].index(maker)]
            return summed((1, {None: const}), *[(times, self.expand(args[field], inner)) for field, inner, times in terms])
        return {(0, variable, number): 1}

    def param_form(self, form, variables):
        return summed((1, {None: form[0]}), *[(times, self.expand(variables[param], number))
                                              for param, number, times in form[1]])

    def claim(self, claim, sums, given, variables):
        """What the left side of a claim is more than its right side."""
        _, steps, words, out, _, form = claim
        return summed((steps, sums[0]), (words, sums[1]), (-1, self.param_form(form, variables)),
                      *[(times, self.expand(given, number)) for number, times in out])

    def claim_hints(self, claims, at, name, args, given):
        sums = ({(1, at, 0): 1}, {(1, at, 1): 1})
        for index, claim in enumerate(claims):
            if claim[0] == name:
                told = summed((-1 if claim[4] == "most" else 1, self.claim(claim, sums, given, args)))
                yield form_of(told), claim[4] == "just", (at, index)

    def hints(self, book, place, params):
        found = [(form_of(self.param_form(need, params)), False, None) for need in book[1][place]]
        for here, there in zip(self.way, self.way[1:]):
            row = self.rows[here]
            if row[0] == "less":
                a, b = self.expand(row[1], 0), self.expand(row[2], 0)
                told = summed((1, b), (-1, a), (-1, {None: 1})) if there == here + 1 else summed((1, a), (-1, b))
                found.append((form_of(told), False, None))
            elif row[0] == "call":
                found.extend(self.claim_hints(book[2], here, row[2], row[3], row[1]))
        return found

    def sums(self, prices):
        found = []
        for part in (0, 1):
            told = {None: sum(prices[at][part] for at in self.way if prices[at] is not None)}
            told.update({(1, at, part): 1 for at in self.way if self.rows[at][0] in ("call", "go")})
            found.append(told)
        return found


def read_duties(core, prices, book):
    """The duties, row by row as [45] tells them."""
    found = []
    for place, function in enumerate(core[1]):
        name, kinds, _, rows = function
        params = range(len(kinds))
        if book[3] is not None:
            start = Row(core, book[0], function, 0)
            rank = form_of(start.param_form(book[3][place][1], params))
            found.append((name, -1, "rank", rank, tuple(start.hints(book, place, params))))
        for at, row in enumerate(rows):
            try:
                reading = Row(core, book[0], function, at)
            except Idle:
                continue
            if prices[place][at] is not None:
                hints = reading.hints(book, place, params)
                for word, goal, more in row_duties(core, prices[place], book, place, reading, row):
                    found.append((name, at, word, form_of(goal), tuple(hints + more)))
    return tuple(found)


def row_duties(core, prices, book, place, reading, row):
    name, kinds = core[1][place][:2]
    _, needs, claims, ranks, rooms = book
    params = range(len(kinds))
    _, _, top, held = prices[reading.at]
    if row[0] in ("call", "go"):
        called, args = row[-2:]
        other = [function[0] for function in core[1]].index(called)
        for need in needs[other]:
            yield "need", reading.param_form(need, args), []
        if ranks is not None and ranks[other][0] > ranks[place][0]:
            yield "rank", {None: -1}, []
        if ranks is not None and ranks[other][0] == ranks[place][0]:
            yield "rank", summed((1, reading.param_form(ranks[place][1], params)), (-1, {None: 1}),
                                 (-1, reading.param_form(ranks[other][1], args))), []
    if rooms is not None:
        room = reading.param_form(rooms[place], params)
        yield "top", summed((1, room), (-1, {None: top})), []
        if row[0] in ("call", "go"):
            yield "held", summed((1, room), (-1, {None: held}), (-1, reading.param_form(rooms[other], args))), []
    if row[0] in ("give", "go"):
        given = row[1] if row[0] == "give" else -1
        more = list(reading.claim_hints(claims, reading.at, row[1], row[2], -1)) if row[0] == "go" else []
        for claim in claims:
            if claim[0] == name:
                told = reading.claim(claim, reading.sums(prices), given, params)
                if claim[4] != "least":
                    yield "most", summed((-1, told)), more
                if claim[4] != "most":
                    yield "least", told, more


class Call:
    """One passing of a function's rows: its values, the rows passed so far, and the calls within by their rows.

    steps and words are those since it began, of what it calls and of what it goes to, too; value is None until it has
    ended. open tells what the open calls around it hold, tops is the greatest top since it began.
    """

    def __init__(self, place, args):
        self.place, self.args = place, args
        self.worth = dict(enumerate(args))
        self.within = {}
        self.steps = self.words = 0
        self.top = 0
        self.value = None


class Cut(Exception):
    """The run is cut."""


class Watched:
    """A run with prices in which at each row, as soon as it is passed, look is called."""

    def __init__(self, core, prices, limit, look):
        self.core, self.prices, self.limit, self.look = core, prices, limit, look
        self.places = {function[0]: place for place, function in enumerate(core[1])}
        self.calls = []

    def run(self, name, args):
        """The call that has ended; None if the run is cut."""
        try:
            return self.call(self.places[name], tuple(args), 0)
        except Cut:
            return None

    def call(self, place, args, depth):
        here = Call(place, args)
        self.calls.append(here)
        at = 0
        while here.value is None:
            if self.limit == 0 or depth > 150:
                raise Cut
            self.limit -= 1
            at = self.row(here, at, self.core[1][place][3][at], depth)
        return here

    def row(self, here, at, row, depth):
        price = self.prices[here.place][at]
        if price is not None:
            here.steps += price[0]
            here.words += price[1]
            here.top = max(here.top, price[2])
        self.look(here, at, False)
        worth = here.worth
        if row[0] == "less":
            return at + 1 if worth[row[1]] < worth[row[2]] else row[3]
        if row[0] == "match":
            maker, fields = worth[row[1]]
            _, variables, start = [branch for branch in row[2] if branch[0] == maker][0]
            worth.update(zip(variables, fields))
            return start
        if row[0] == "give":
            here.value = worth[row[1]]
            self.look(here, at, True)
        elif row[0] in ("call", "go"):
            inner = self.call(self.places[row[-2]], tuple(worth[arg] for arg in row[-1]), depth + 1)
            here.within[at] = inner
            here.steps += inner.steps
            here.words += inner.words
            held = price[3] if price is not None and row[0] == "call" else 0
            here.top = max(here.top, held + inner.top)
            if row[0] == "go":
                here.value = inner.value
                self.look(here, at, True)
            else:
                worth[row[1]] = inner.value
        elif row[0] == "make":
            worth[row[1]] = (row[2], tuple(worth[arg] for arg in row[3]))
        else:
            worth[row[1]] = {"num": lambda: row[2], "add": lambda: worth[row[2]] + worth[row[3]],
                             "sub": lambda: worth[row[2]] - worth[row[3]],
                             "times": lambda: worth[row[2]] * row[3]}[row[0]]()
        return at + 1

    def number(self, here, form, measures):
        """The number of a form at a call's moment."""
        total = form[0]
        for (sort, one, two), times in form[1]:
            if sort == 1:
                total += times * (here.within[one].steps, here.within[one].words)[two]
            else:
                total += times * measure_of(self.core, measures, two, here.value if one == -1 else here.worth[one])
        return total


def told_of(core, measures, form, args):
    """The number that a param form has of a call's arguments."""
    return form[0] + sum(times * measure_of(core, measures, number, args[param]) for param, number, times in form[1])


def claim_of(core, measures, claim, call):
    """What the left side of a claim is more than its right side, of a call that has ended."""
    _, steps, words, out, _, form = claim
    value = sum(times * measure_of(core, measures, number, call.value) for number, times in out)
    return steps * call.steps + words * call.words + value - told_of(core, measures, form, call.args)


def values_of(args):
    return [value_of(words) for words in args]


def with_numbers(core, template, numbers):
    """The claims of a template straight from [56], with integers for its unknowns; numbers is used up."""
    relation, steps, words, shapes = template
    numbers = list(numbers)
    claims = []
    for function, shape in zip(core[1], shapes):
        if shape is not None:
            const = numbers.pop(0)
            ins = tuple(pair + (numbers.pop(0),) for pair in shape[1])
            out = tuple((number, numbers.pop(0)) for number in shape[0])
            claims.append((function[0], steps, words, tuple(term for term in out if term[1]), relation,
                           (const, tuple(term for term in ins if term[2]))))
    return tuple(claims)


def forms_with_numbers(ins, numbers):
    """The param forms of [61] for each function's ins, likewise."""
    numbers = list(numbers)
    forms = []
    for pairs in ins:
        const = numbers.pop(0)
        terms = tuple(pair + (numbers.pop(0),) for pair in pairs)
        forms.append((const, tuple(term for term in terms if term[2])))
    return tuple(forms)


def claims_of_duties(found, claims):
    """For each duty the index of the claim to which it belongs, or None."""
    indexes, waiting, last = [], [], None
    for name, row, word, _, _ in found:
        if (name, row) != last:
            last = (name, row)
            waiting = [(index, each) for index, claim in enumerate(claims) if claim[0] == name
                       for each in (("most", "least") if claim[4] == "just" else (claim[4],))]
        if word in ("most", "least"):
            index, told = waiting.pop(0)
            assert told == word
            indexes.append(index)
        else:
            indexes.append(None)
    return indexes


def read_claim_lines(core, prices, book, template, never):
    """The system of [57], from the duties with all unknowns 0 and with each one 1."""
    shapes = [shape for shape in template[3] if shape is not None]
    count = sum(1 + len(ins) + len(outs) for outs, ins in shapes)
    first = len(book[2])

    def told(numbers):
        claims = book[2] + with_numbers(core, template, numbers)
        found = read_duties(core, prices, book[:2] + (claims,) + book[3:])
        indexes = claims_of_duties(found, claims)
        return [duty for duty, index in zip(found, indexes) if index is not None and index >= first]

    return read_lines(told, count, first, never, lambda duty: template[0] == "just" and duty[2] == "most")


def read_form_lines(core, prices, book, ins, never, levels=None):
    """The system of [61] for ranks, or without levels for rooms."""
    count = sum(1 + len(pairs) for pairs in ins)

    def told(numbers):
        forms = forms_with_numbers(ins, numbers)
        if levels is None:
            changed = book[:3] + (None, forms)
        else:
            changed = book[:3] + (tuple(zip(levels, forms)), None)
        words = ("top", "held") if levels is None else ("rank",)
        return [duty for duty in read_duties(core, prices, changed) if duty[2] in words]

    return read_lines(told, count, 30, never, lambda duty: False)


def read_lines(told, count, first, never, plus):
    units = [told([int(at == other) for other in range(count)]) for at in range(count)]
    rows = []
    top = count
    for place, duty in enumerate(told([0] * count)):
        versions = [duty] + [unit[place] for unit in units]
        rest = Lines()
        rest.take([version[3] for version in versions], 1)
        atoms = {atom for version in versions for form in [version[3]] + [hint[0] for hint in version[4]] for atom, _ in form[1]}
        for at, (form, exact, origin) in enumerate(duty[4]):
            if origin is None or origin[1] < first:
                rest.take_times(form, top)
                if not exact:
                    rows.append(((0, ((top, 1),)), False))
                top += 1
            else:
                rest.take([version[4][at][0] for version in versions], 1 if plus(duty) else -1)
        for atom in sorted(atoms):
            rows.append((rest.line(atom), not (atom[0] == 1 or atom[2] in never)))
        rows.append((rest.line(None), False))
    return top, tuple(rows)


class Lines:
    """The lines of a rest by atom, None for the const."""

    def __init__(self):
        self.found = {}

    def put(self, atom, unknown, number):
        line = self.found.setdefault(atom, {})
        line[unknown] = line.get(unknown, 0) + number

    def take(self, versions, sign):
        """Takes a form of which the first version has all unknowns 0, each other one another of them 1."""
        base = {None: versions[0][0], **dict(versions[0][1])}
        for atom, number in base.items():
            self.put(atom, None, sign * number)
        for unknown, (const, terms) in enumerate(versions[1:]):
            other = {None: const, **dict(terms)}
            for atom in set(base) | set(other):
                self.put(atom, unknown, sign * (other.get(atom, 0) - base.get(atom, 0)))

    def take_times(self, form, unknown):
        for atom, number in ((None, form[0]),) + form[1]:
            self.put(atom, unknown, -number)

    def line(self, atom):
        line = self.found.get(atom, {})
        terms = sorted((unknown, number) for unknown, number in line.items() if unknown is not None and number != 0)
        return line.get(None, 0), tuple(terms)
