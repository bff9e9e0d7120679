"""Runs of the machine: registers, a stack and a heap of words, and what an image's code does with them."""

from juststeps.cores import need_core, place_of
from juststeps.errors import BadLimit
from juststeps.images import need_image
from juststeps.kinds import makers_by_kind
from juststeps.laying import laid, read_words
from juststeps.names import is_between
from juststeps.plain import need_args
from juststeps.stacks import Stack

MOST_LIMIT = 1000000
REGISTERS = 8


def run_image(core, image, name, args, limit):
    """(end, value, steps, words, top) of the machine's run of the function."""
    need_core(core)
    machine = _demanded_run(core, image, name, args, limit)
    end = machine.end
    value = None
    if end == "ended":
        kind = core[1][place_of(core, name)][2]
        end, value = read_words(makers_by_kind(core[0]), machine.heap, kind, machine.registers[0])
    return end, value, len(machine.trail), machine.words, machine.top


def trace_image(core, image, name, args, limit):
    """The addresses of the steps that the same run does, in their sequence."""
    need_core(core)
    return tuple(_demanded_run(core, image, name, args, limit).trail)


def _demanded_run(core, image, name, args, limit):
    """The machine behind its run, behind the errors of the arguments; the core is judged already."""
    need_image(core, image)
    place = place_of(core, name)
    need_args(core, place, args)
    if not is_between(limit, 0, MOST_LIMIT):
        raise BadLimit("an integer from 0 to 1000000 is wanted")
    machine = Machine(image)
    machine.heap, words = laid(makers_by_kind(core[0]), core[1][place][1], args)
    machine.registers[:len(words)] = words
    machine.run(name, limit)
    return machine


class Machine:
    """The machine at one of its addresses.

    trail has the addresses of the steps done, words counts the words that new has added, top is the greatest number
    of words that the stack had; end is empty until the run is over.
    """

    def __init__(self, image):
        self.starts = {name: address for name, address in image[0]}
        self.code = image[1]
        self.registers = [0] * REGISTERS
        self.stack = Stack()
        self.heap = []
        self.trail = []
        self.words = 0
        self.top = 0
        self.end = ""

    def run(self, name, limit):
        """Does instructions until the run has ended, is spent or has a fault."""
        at = self.starts[name]
        while self.end == "":
            if len(self.trail) == limit:
                self.end = "spent"
            elif not 0 <= at < len(self.code):
                self.end = "fault"
            else:
                at = self.step(at)

    def step(self, at):
        """Does the instruction at an address and returns the address at which the run goes on."""
        instruction = self.code[at]
        action = ACTIONS[instruction[0]]
        then = action(self, instruction, at)
        if then is None:
            self.end = "fault"
        else:
            self.trail.append(at)
        return then

    def push(self, many):
        """Puts so many words, each 0, on the stack."""
        self.stack.grow(many)
        self.top = max(self.top, self.stack.height)

    def place_in_heap(self, word, offset):
        """The index into the heap that a word and an offset tell, or None."""
        if 0 <= word + offset < len(self.heap):
            return word + offset
        return None


# Each action does an instruction and returns the next address, or None if the instruction cannot be done.

def _set(machine, instruction, at):
    machine.registers[instruction[1]] = instruction[2]
    return at + 1


def _copy(machine, instruction, at):
    machine.registers[instruction[1]] = machine.registers[instruction[2]]
    return at + 1


def _add(machine, instruction, at):
    _, r, s, t = instruction
    machine.registers[r] = machine.registers[s] + machine.registers[t]
    return at + 1


def _sub(machine, instruction, at):
    _, r, s, t = instruction
    machine.registers[r] = machine.registers[s] - machine.registers[t]
    return at + 1


def _times(machine, instruction, at):
    _, r, s, n = instruction
    machine.registers[r] = machine.registers[s] * n
    return at + 1


def _new(machine, instruction, at):
    _, r, n = instruction
    machine.registers[r] = len(machine.heap)
    machine.heap.extend([0] * n)
    machine.words += n
    return at + 1


def _put(machine, instruction, at):
    _, r, o, s = instruction
    place = machine.place_in_heap(machine.registers[r], o)
    if place is None:
        return None
    machine.heap[place] = machine.registers[s]
    return at + 1


def _take(machine, instruction, at):
    _, r, s, o = instruction
    place = machine.place_in_heap(machine.registers[s], o)
    if place is None:
        return None
    machine.registers[r] = machine.heap[place]
    return at + 1


def _push(machine, instruction, at):
    machine.push(instruction[1])
    return at + 1


def _drop(machine, instruction, at):
    if instruction[1] > machine.stack.height:
        return None
    machine.stack.shrink(instruction[1])
    return at + 1


def _save(machine, instruction, at):
    _, i, r = instruction
    if i >= machine.stack.height:
        return None
    machine.stack.write(i, machine.registers[r])
    return at + 1


def _load(machine, instruction, at):
    _, r, i = instruction
    if i >= machine.stack.height:
        return None
    machine.registers[r] = machine.stack.word(i)
    return at + 1


def _less(machine, instruction, at):
    _, s, t, j = instruction
    return at + 1 if machine.registers[s] < machine.registers[t] else j


def _table(machine, instruction, _):
    _, s, js = instruction
    index = machine.registers[s]
    return js[index] if 0 <= index < len(js) else None


def _jump(_, instruction, at):
    return instruction[1]


def _call(machine, instruction, at):
    machine.push(1)
    machine.stack.write(0, at + 1)
    return machine.starts[instruction[1]]


def _go(machine, instruction, _):
    return machine.starts[instruction[1]]


def _return(machine, _, at):
    if machine.stack.height == 0:
        machine.end = "ended"
        return at
    word = machine.stack.word(0)
    machine.stack.shrink(1)
    return word


ACTIONS = {
    "set": _set,
    "copy": _copy,
    "add": _add,
    "sub": _sub,
    "times": _times,
    "new": _new,
    "put": _put,
    "take": _take,
    "push": _push,
    "drop": _drop,
    "save": _save,
    "load": _load,
    "less": _less,
    "table": _table,
    "jump": _jump,
    "call": _call,
    "go": _go,
    "return": _return,
}
