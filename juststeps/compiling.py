"""Compiles cores to images at three efforts."""

from juststeps.coding import addresses_in, image_of, led, shape
from juststeps.cores import need_core
from juststeps.errors import BadEffort
from juststeps.lightcode import light_coder
from juststeps.names import is_between
from juststeps.needing import is_light, needed_at
from juststeps.plaincode import plain_code, plain_coder

MOST_EFFORT = 2


def compile_core(core, effort):
    """An image that fits the core and that the code judge lets by."""
    need_core(core)
    if not is_between(effort, 0, MOST_EFFORT):
        raise BadEffort("an integer from 0 to 2 is wanted")
    if effort == 0:
        return plain_code(core)
    image = image_of(core, [_better_coder(core, function) for function in core[1]])
    return image if effort == 1 else merged(image)


def _better_coder(core, function):
    needed = needed_at(function[3])
    if is_light(function[3], needed):
        return light_coder(core, function, needed)
    return plain_coder(core, function)


def merged(image):
    """The image with one address for each lot of addresses of branches that have the same code behind them.

    What no run can come to any more falls away. Each address leads to greater ones alone in the image given.
    """
    starts, code = image
    lots = _lots(code)
    first = {}
    for instruction in code:
        for address in addresses_in(instruction):
            first[lots[address]] = min(address, first.get(lots[address], address))
    # An address that is none of a branch's is never led to, but stands among the places all the same.
    places = [first.get(lot, at) for at, lot in enumerate(lots)]
    return _only_come_to(starts, [led(instruction, places) for instruction in code])


def _lots(code):
    """For each address the number of its lot: two have one number just if they have the same code behind them."""
    lots = [0] * len(code)
    numbers = {}
    for at in range(len(code) - 1, -1, -1):
        key = (shape(code[at]), tuple([lots[then] for then in _then(code, at)]))
        lots[at] = numbers.setdefault(key, len(numbers))
    return lots


def _then(code, at):
    """The addresses to which the instruction at an address may go on next, calls being passed."""
    instruction = code[at]
    behind = () if instruction[0] in ("table", "go", "return") else (at + 1,)
    return behind + tuple(addresses_in(instruction))


def _only_come_to(starts, code):
    """The image without the instructions to which no way leads from a start."""
    reached = {}
    waiting = [address for _, address in starts]
    while waiting:
        at = waiting.pop()
        if at not in reached:
            reached[at] = True
            waiting.extend(_then(code, at))
    kept = sorted(list(reached))
    places = {at: place for place, at in enumerate(kept)}
    moved = tuple([led(code[at], places) for at in kept])
    return tuple((name, places[address]) for name, address in starts), moved
