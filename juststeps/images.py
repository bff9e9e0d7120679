"""Images of the machine: what is one, whether it fits a core, its text, and the image of a text."""

from juststeps.cores import need_core
from juststeps.errors import BadImage, BadListing, Unfit
from juststeps.instructions import instruction_of, is_instruction, line_of, numeral
from juststeps.names import is_between, is_low, is_tuple

MOST_STARTS = 12
MOST_CODE = 60000


def is_image(thing):
    """Whether any object is an image."""
    if not is_tuple(thing, 2, 2) or not is_tuple(thing[1], 0, MOST_CODE):
        return False
    starts, code = thing
    if not _are_starts(starts, len(code)):
        return False
    names = {name: True for name, _ in starts}
    return all([is_instruction(instruction, len(code), names) for instruction in code])


def fits(core, image):
    """Whether the names of the image's starts are those of the core's functions, in the same sequence."""
    need_core(core)
    if not is_image(image):
        raise BadImage("an image is wanted")
    return [name for name, _ in image[0]] == [function[0] for function in core[1]]


def need_image(core, thing):
    """Raises BadImage for any object that is no image, and Unfit for one that does not fit the core."""
    if not fits(core, thing):
        raise Unfit("an image with a start for each function of the core is wanted")


def write_image(image):
    """The text of an image."""
    if not is_image(image):
        raise BadImage("an image is wanted")
    starts, code = image
    lines = [f"start {name} {address}" for name, address in starts]
    return "\n".join(lines + [line_of(instruction) for instruction in code])


def read_image(text):
    """The image of a text; raises BadListing with the line that is wrong first."""
    if not isinstance(text, str):
        raise BadListing(0)
    lines = text.split("\n") if text else []
    many = _many_starts(lines)
    starts = _read_starts(lines[:many], len(lines) - many)
    return starts, _read_code(lines, many, {name: True for name, _ in starts})


def _are_starts(thing, size):
    if not is_tuple(thing, 0, MOST_STARTS):
        return False
    names = {}
    for start in thing:
        if not is_tuple(start, 2, 2) or not is_low(start[0]) or start[0] in names:
            return False
        if not is_between(start[1], 0, size - 1):
            return False
        names[start[0]] = True
    return True


def _many_starts(lines):
    """How many lines stand ahead of the first one that is no start's."""
    for at, line in enumerate(lines):
        if line[:5] != "start":
            return at
    return len(lines)


def _read_starts(lines, size):
    starts = []
    for at, line in enumerate(lines):
        words = line.split(" ")
        if len(words) != 3 or words[0] != "start":
            raise BadListing(at)
        starts.append((words[1], numeral(words[2])))
        if not _are_starts(tuple(starts), size):
            raise BadListing(at)
    return tuple(starts)


def _read_code(lines, many, names):
    """The instructions of the lines behind those of the starts, which are so many."""
    code = []
    size = len(lines) - many
    for at in range(many, len(lines)):
        instruction = instruction_of(lines[at])
        if len(code) == MOST_CODE or not is_instruction(instruction, size, names):
            raise BadListing(at)
        code.append(instruction)
    return tuple(code)
