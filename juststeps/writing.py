"""The words of a program, in the order in which its text has them."""


def program_words(program):
    """The words of a program as a list of strs."""
    kinds, functions = program
    words = []
    for name, makers in kinds:
        words.extend(["kind", name, "{"])
        for maker, fields in makers:
            words.extend([maker] + _in_brackets([[field] for field in fields]))
        words.append("}")
    for name, params, result, body in functions:
        heads = _in_brackets([[kind, param] for param, kind in params])
        words.extend(["def", name] + heads + [":", result] + _in_braces(body))
    return words


def _in_brackets(parts):
    """The words of the parts with commas between and brackets around."""
    words = ["("]
    for at, part in enumerate(parts):
        if at > 0:
            words.append(",")
        words.extend(part)
    words.append(")")
    return words


def _in_braces(body):
    return ["{"] + _body_words(body) + ["}"]


def _body_words(body):
    word = body[0]
    if word == "let":
        return ["let", body[1], "="] + _term_words(body[2]) + [";"] + _body_words(body[3])
    if word == "if":
        ahead = ["if"] + _term_words(body[1]) + ["<"] + _term_words(body[2])
        return ahead + _in_braces(body[3]) + ["else"] + _in_braces(body[4])
    if word == "give":
        return ["give"] + _term_words(body[1])
    words = ["match"] + _term_words(body[1]) + ["{"]
    for maker, names, inner in body[2]:
        words.extend([maker] + _in_brackets([[name] for name in names]) + _in_braces(inner))
    words.append("}")
    return words


def _term_words(term):
    word = term[0]
    if word == "num":
        return [str(term[1])]
    if word == "name":
        return [term[1]]
    if word == "op":
        return ["("] + _term_words(term[2]) + [term[1]] + _term_words(term[3]) + [")"]
    if word == "times":
        return ["(", str(term[1]), "*"] + _term_words(term[2]) + [")"]
    return [term[1]] + _in_brackets([_term_words(part) for part in term[2]])
