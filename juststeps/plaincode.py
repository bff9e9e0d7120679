"""Plain code: each variable has a word of the frame, the i-th one the word i from the top."""

from juststeps.coding import Coder, image_of
from juststeps.cores import need_core
from juststeps.rows import bound_by

# The instructions of rows whose number hangs on nothing: those before, those behind, and the words of the heap.
TABLE = {
    "num": (2, 0, 0),
    "add": (4, 0, 0),
    "sub": (4, 0, 0),
    "times": (3, 0, 0),
    "less": (3, 0, 0),
    "match": (3, 0, 0),
    "give": (3, 0, 0),
}


def plain_code(core):
    """An image that fits the core, with the prices of plain_table."""
    need_core(core)
    return image_of(core, [plain_coder(core, function) for function in core[1]])


def plain_table(core):
    """For each function (first, rows): its first instructions, and (before, behind, words) for each row."""
    need_core(core)
    return tuple((1 + len(params), tuple(_entry(row) for row in rows)) for _, params, _, rows in core[1])


def _entry(row):
    word = row[0]
    if word in TABLE:
        return TABLE[word]
    many = len(row[-1])
    if word == "make":
        return 4 + 2 * many, 0, 1 + many
    return (many + 1, 1, 0) if word == "call" else (many + 2, 0, 0)


def frame_of(function):
    """How many words the frame has: one more than the greatest variable, none if there are no variables."""
    bound = [variable for row in function[3] for variable in bound_by(row)]
    return max(bound + [len(function[1]) - 1]) + 1


def maker_indexes(core):
    """The index within its kind by the name of each maker."""
    return {maker: index for _, makers in core[0] for index, (maker, _) in enumerate(makers)}


def plain_coder(core, function):
    """The plain code of one function of the core."""
    writer = PlainWriter(core, frame_of(function))
    writer.coder.write("push", writer.frame)
    for param in range(len(function[1])):
        writer.coder.write("save", param, param)
    for at, row in enumerate(function[3]):
        writer.coder.begin(at)
        writer.row(at, row)
    return writer.coder


class PlainWriter:
    """Writes the plain code of rows. A branch's first row begins with the instructions of the branch."""

    def __init__(self, core, frame):
        self.indexes = maker_indexes(core)
        self.frame = frame
        self.coder = Coder()
        self.ahead = {}

    def row(self, at, row):
        for offset, variable in enumerate(self.ahead.get(at, ()), start=1):
            self.coder.write("take", 1, 0, offset)
            self.coder.write("save", variable, 1)
        action = ACTIONS[row[0]]
        action(self, row, at)

    def load_all(self, variables):
        for place, variable in enumerate(variables):
            self.coder.write("load", place, variable)


def _num(writer, row, _):
    writer.coder.write("set", 0, row[2])
    writer.coder.write("save", row[1], 0)


def _sum(writer, row, _):
    writer.load_all(row[2:])
    writer.coder.write(row[0], 0, 0, 1)
    writer.coder.write("save", row[1], 0)


def _times(writer, row, _):
    writer.coder.write("load", 0, row[2])
    writer.coder.write("times", 0, 0, row[3])
    writer.coder.write("save", row[1], 0)


def _make(writer, row, _):
    _, x, maker, args = row
    writer.coder.write("new", 0, 1 + len(args))
    writer.coder.write("set", 1, writer.indexes[maker])
    writer.coder.write("put", 0, 0, 1)
    for offset, variable in enumerate(args, start=1):
        writer.coder.write("load", 1, variable)
        writer.coder.write("put", 0, offset, 1)
    writer.coder.write("save", x, 0)


def _call(writer, row, _):
    _, x, name, args = row
    writer.load_all(args)
    writer.coder.write("call", name)
    writer.coder.write("save", x, 0)


def _less(writer, row, _):
    writer.load_all(row[1:3])
    writer.coder.write("less", 0, 1, row[3])


def _match(writer, row, _):
    writer.coder.write("load", 0, row[1])
    writer.coder.write("take", 1, 0, 0)
    writer.coder.write("table", 1, tuple([start for _, _, start in row[2]]))
    for _, variables, start in row[2]:
        writer.ahead[start] = variables


def _give(writer, row, _):
    writer.coder.write("load", 0, row[1])
    writer.coder.write("drop", writer.frame)
    writer.coder.write("return")


def _go(writer, row, _):
    writer.load_all(row[2])
    writer.coder.write("drop", writer.frame)
    writer.coder.write("go", row[1])


ACTIONS = {
    "num": _num,
    "add": _sum,
    "sub": _sum,
    "times": _times,
    "make": _make,
    "call": _call,
    "less": _less,
    "match": _match,
    "give": _give,
    "go": _go,
}
