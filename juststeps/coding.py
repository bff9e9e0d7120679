"""Makes images from code that is written function by function, with rows of the core in the place of addresses."""


class Coder:
    """The code of one function as far as it is written; places has the address at which each row's code begins."""

    def __init__(self):
        self.code = []
        self.places = {}

    def begin(self, row):
        """What is written next is the code of the row, or of the branch that begins with it."""
        if row not in self.places:
            self.places[row] = len(self.code)

    def write(self, *parts):
        self.code.append(parts)


def image_of(core, coders):
    """The image with the code of one coder for each function of the core."""
    starts = []
    code = []
    for function, coder in zip(core[1], coders):
        base = len(code)
        starts.append((function[0], base))
        places = {row: base + coder.places[row] for row in coder.places}
        code.extend([led(instruction, places) for instruction in coder.code])
    return tuple(starts), tuple(code)


def led(instruction, places):
    """The instruction with places[j] in the place of each address j that stands in it."""
    if instruction[0] == "less":
        return instruction[:3] + (places[instruction[3]],)
    if instruction[0] == "table":
        return instruction[:2] + (tuple([places[entry] for entry in instruction[2]]),)
    return instruction


def shape(instruction):
    """The instruction without its addresses."""
    if instruction[0] == "less":
        return instruction[:3]
    if instruction[0] == "table":
        return instruction[:2] + (len(instruction[2]),)
    return instruction


def addresses_in(instruction):
    """The addresses that stand in the instruction, j or js."""
    if instruction[0] == "less":
        return instruction[3:]
    return instruction[2] if instruction[0] == "table" else ()
