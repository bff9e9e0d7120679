"""Tells the duties at the rows of a function.

The numbers of a book's forms are put as an outline: parts (unknown, times, place), where place is None for the const
and else a variable's index with the number of a measure. unknown is None for a number of the book itself; else the
number is that of times the unknown, which has yet to be found.
"""

from juststeps.forms import ONE, combined, gathered
from juststeps.knowing import spots_of

# The variable that stands for the value that a go at the end of a way gives.
GONE = -1
# The words of a claim's duties, each with the sign of what is told in its goal.
SIDES = {
    "most": (("most", -1),),
    "least": (("least", 1),),
    "just": (("most", -1), ("least", 1)),
}


def outlined(form):
    """The outline of a param form."""
    const, terms = form
    return [(None, const, None)] + [(None, times, (param, number)) for param, number, times in terms]


class Claim:
    """A claim, with outlines in the place of its out and in; those of out have numbers as places."""

    def __init__(self, name, steps, words, outs, relation, ins):
        self.name = name
        self.steps = steps
        self.words = words
        self.outs = outs
        self.relation = relation
        self.ins = ins


class Plan:
    """A book with outlines in the place of its forms."""

    def __init__(self, book):
        self.measures, needs, claims, ranks, rooms = book
        self.needs = [[outlined(form) for form in forms] for forms in needs]
        self.claims = [_claim_of(claim) for claim in claims]
        self.ranks = None if ranks is None else [(level, outlined(form)) for level, form in ranks]
        self.rooms = None if rooms is None else [outlined(form) for form in rooms]

    def claims_of(self, name):
        """The claims of a function with their indexes."""
        return [(index, claim) for index, claim in enumerate(self.claims) if claim.name == name]


def _claim_of(claim):
    name, steps, words, terms, relation, form = claim
    return Claim(name, steps, words, [(None, times, number) for number, times in terms], relation, outlined(form))


class Hints:
    """Hints, and for each of them its slopes: what each unknown adds to its form."""

    def __init__(self, pairs):
        self.stated = tuple([hint for hint, _ in pairs])
        self.slopes = [slopes for _, slopes in pairs]


class Duty:
    """A duty as [45] tells it, with all unknowns 0; slopes are what each unknown adds to its goal.

    claim is the index of the claim to which it belongs, or None.
    """

    def __init__(self, stated, slopes, hint_slopes, claim):
        self.stated = stated
        self.slopes = slopes
        self.hint_slopes = hint_slopes
        self.claim = claim


class Teller:
    """Tells the duties of one function; spots are its rows that are not idle and have a price."""

    def __init__(self, core, prices, plan, place):
        self.plan = plan
        self.place = place
        self.places = {function[0]: at for at, function in enumerate(core[1])}
        self.name, params, _, self.rows = core[1][place]
        self.params = tuple(range(len(params)))
        self.prices = prices[place]
        self.reached = spots_of(core, plan.measures, core[1][place])
        self.spots = [spot for spot in self.reached if self.prices[spot.at] is not None]

    def duties(self):
        """All duties of the function, in their sequence."""
        found = self.entry_duties()
        for spot in self.spots:
            found.extend(self.need_duties(spot))
            found.extend(self.rank_duties(spot))
            found.extend(self.room_duties(spot))
            found.extend(self.claim_duties(spot, 0))
        return found

    def entry_duties(self):
        """The duty that the rank is 0 or more, if there are ranks."""
        if self.plan.ranks is None:
            return []
        facts = self.reached[0].facts
        rank = told_parts(facts, self.plan.ranks[self.place][1], self.params, 1)
        return [self.duty(-1, "rank", rank, Hints(self.need_hints(facts)), None)]

    def need_duties(self, spot):
        """The duties that a call or go keeps the needs of what it names."""
        if spot.row[0] not in ("call", "go"):
            return []
        name, args = spot.row[-2:]
        needs = [told_parts(spot.facts, outline, args, 1) for outline in self.plan.needs[self.places[name]]]
        return [self.duty(spot.at, "need", need, self.hints_at(spot), None) for need in needs]

    def rank_duties(self, spot):
        """The duty that the level falls, or else the rank, at a call or go."""
        if self.plan.ranks is None or spot.row[0] not in ("call", "go"):
            return []
        name, args = spot.row[-2:]
        own, outline = self.plan.ranks[self.place]
        level, other = self.plan.ranks[self.places[name]]
        if level < own:
            return []
        parts = [(None, -1, ONE)]
        if level == own:
            parts += told_parts(spot.facts, outline, self.params, 1) + told_parts(spot.facts, other, args, -1)
        return [self.duty(spot.at, "rank", parts, self.hints_at(spot), None)]

    def room_duties(self, spot):
        """The duties that what the row tops, and what a call or go opens, is within the room."""
        if self.plan.rooms is None:
            return []
        _, _, top, held = self.prices[spot.at]
        hints = self.hints_at(spot)
        room = told_parts(spot.facts, self.plan.rooms[self.place], self.params, 1)
        found = [self.duty(spot.at, "top", room + [(None, -top, ONE)], hints, None)]
        if spot.row[0] in ("call", "go"):
            name, args = spot.row[-2:]
            other = told_parts(spot.facts, self.plan.rooms[self.places[name]], args, -1)
            found.append(self.duty(spot.at, "held", room + [(None, -held, ONE)] + other, hints, None))
        return found

    def claim_duties(self, spot, first):
        """The duties at a give or go of the function's claims from the index first on."""
        claims = [(index, claim) for index, claim in self.plan.claims_of(self.name) if index >= first]
        if spot.row[0] not in ("give", "go") or not claims:
            return []
        given, hints = spot.row[1], self.hints_at(spot)
        if spot.row[0] == "go":
            given = GONE
            hints = Hints(self.pairs_at(spot) + self.claim_hints(spot.facts, spot.at, spot.row[1:], GONE))
        sums = (self.sum_at(spot, 0), self.sum_at(spot, 1))
        found = []
        for index, claim in claims:
            for word, sign in SIDES[claim.relation]:
                parts = _claim_parts(spot.facts, claim, sums, given, self.params, sign)
                found.append(self.duty(spot.at, word, parts, hints, index))
        return found

    def sum_at(self, spot, part):
        """The sum of steps (the part 0) or of heap words (1) on the way to a give or go, itself among it."""
        const = sum([self.prices[at][part] for at in spot.way if self.prices[at] is not None])
        calls = [at for at in spot.way if self.rows[at][0] in ("call", "go")]
        return const, tuple([((1, at, part), 1) for at in calls])

    def hints_at(self, spot):
        if spot.hints is None:
            spot.hints = Hints(self.pairs_at(spot))
        return spot.hints

    def pairs_at(self, spot):
        """The hints at a spot, each with its slopes: those of the needs, then those of the rows of the way."""
        found = list(self.need_hints(spot.facts))
        for here, there in zip(spot.way, spot.way[1:]):
            if there not in spot.facts.hints:
                spot.facts.hints[there] = self.row_hints(spot.facts, here, there)
            found.extend(spot.facts.hints[there])
        return found

    def need_hints(self, facts):
        """The hints, kept at row 0, to which no row goes on, that the function's needs are kept."""
        if 0 not in facts.hints:
            needs = [told_parts(facts, outline, self.params, 1) for outline in self.plan.needs[self.place]]
            facts.hints[0] = [_hint(need, False, None) for need in needs]
        return facts.hints[0]

    def row_hints(self, facts, here, there):
        """The hints of a row from which the way goes on at the row there."""
        row = self.rows[here]
        if row[0] == "call":
            return self.claim_hints(facts, here, row[2:], row[1])
        if row[0] != "less":
            return []
        a, b = [facts.expanded(variable, 0) for variable in row[1:3]]
        if there == here + 1:
            return [_hint([(None, 1, b), (None, -1, a), (None, -1, ONE)], False, None)]
        return [_hint([(None, 1, a), (None, -1, b)], False, None)]

    def claim_hints(self, facts, at, called, x):
        """The hints of the claims of the function that a call or go at a row names, its value being x."""
        name, args = called
        sums = ((0, (((1, at, 0), 1),)), (0, (((1, at, 1), 1),)))
        found = []
        for index, claim in self.plan.claims_of(name):
            sign = -1 if claim.relation == "most" else 1
            parts = _claim_parts(facts, claim, sums, x, args, sign)
            found.append(_hint(parts, claim.relation == "just", (at, index)))
        return found

    def duty(self, at, word, parts, hints, claim):
        goal, slopes = gathered(parts)
        return Duty((self.name, at, word, goal, hints.stated), slopes, hints.slopes, claim)


def told_parts(facts, outline, variables, sign):
    """The parts (unknown, times, form) of an outline, of the variables in the place of the params."""
    return [
        (unknown, sign * times, ONE if place is None else facts.expanded(variables[place[0]], place[1]))
        for unknown, times, place in outline
    ]


def _claim_parts(facts, claim, sums, given, variables, sign):
    """The parts of what a claim's left side is more than its right side."""
    parts = [(None, sign * claim.steps, sums[0]), (None, sign * claim.words, sums[1])]
    outs = [(unknown, sign * times, facts.expanded(given, number)) for unknown, times, number in claim.outs]
    return parts + outs + told_parts(facts, claim.ins, variables, -sign)


def _hint(parts, exact, origin):
    """A hint with its slopes."""
    form, slopes = gathered(parts)
    return (form, exact, origin), slopes
