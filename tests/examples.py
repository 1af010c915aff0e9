"""Runs the examples of the document: each `>>>` line, and below it the answer, the error or nothing."""

import os

from laneswap.errors import LaneError

PROMPT = ">>> "
RAISES = "raises "


def told(error):
    """An error as the document writes it."""
    fields = ", ".join(f"{name}={value!r}" for name, value in vars(error).items())
    return f"{type(error).__name__}({fields})"


def read_examples(path):
    """The pairs of a line of code and its answer, of a file; the answer is "" where none stands."""
    pairs = []
    with open(path, encoding="ascii") as file:
        for line in file.read().splitlines():
            if line.startswith(PROMPT):
                pairs.append([line[len(PROMPT):], ""])
            elif line:
                pairs[-1][1] = line
    return [tuple(pair) for pair in pairs]


def answer(code, names):
    """What a line of code answers, as the document writes it; names are its variables."""
    try:
        try:
            compiled = compile(code, "example", "eval")
        except SyntaxError:
            exec(code, names)
            return ""
        result = eval(compiled, names)
    except LaneError as error:
        return RAISES + told(error)
    return "" if result is None else repr(result)


def all_examples():
    """The examples of all modules, in the order of the document."""
    return read_examples(os.path.join(os.path.dirname(__file__), "examples.txt"))
