"""Names, and the check of a program (points 2 to 5)."""

from calltowers.errors import ProgramError
from calltowers.flow import points, size

LETTERS = "abcdefghijklmnopqrstuvwxyz"
NO_NAMES = ("and", "or", "not", "same")
LONGEST_NAME = 8
MOST_GLOBALS = 4
MOST_PROCS = 6
MOST_VARIABLES = 4
MOST_POINTS = 40
DEEPEST_EXPRESSION = 8
DEEPEST_BODY = 6

# For each first word, the kinds of the parts behind it.
EXPRESSIONS = {
    "flag": ("flag",),
    "var": ("variable",),
    "not": ("expression",),
    "and": ("expression", "expression"),
    "or": ("expression", "expression"),
    "same": ("expression", "expression"),
}
STATEMENTS = {
    "set": ("variable", "expression"),
    "pick": ("variable",),
    "say": ("word",),
    "call": ("proc", "args", "target"),
    "back": ("expression",),
    "if": ("expression", "body", "body"),
    "while": ("expression", "body"),
    "either": ("body", "body"),
}


def is_name(text):
    """Whether a text is a name."""
    if not isinstance(text, str) or text in NO_NAMES:
        return False
    return 1 <= len(text) <= LONGEST_NAME and all([letter in LETTERS for letter in text])


def check_program(program):
    """Raises ProgramError for the first thing that is wrong with a program."""
    if len(program["globals"]) > MOST_GLOBALS or not are_names(program["globals"]):
        raise ProgramError("globals", "")
    if not has_main(program["procs"]):
        raise ProgramError("main", "")
    for proc in sorted(program["procs"]):
        code = failing_code(program, proc)
        if code:
            raise ProgramError(code, proc)


def are_names(things):
    """Whether things are a tuple of different names."""
    if not isinstance(things, tuple) or not all([is_name(thing) for thing in things]):
        return False
    return len(set(things)) == len(things)


def has_main(procs):
    """Whether the procedures are as many as may be, all with names, and main is one without params."""
    if not 1 <= len(procs) <= MOST_PROCS or not all([is_name(proc) for proc in procs]):
        return False
    return "main" in procs and procs["main"][0] == ()


def failing_code(program, proc):
    """The first code that a procedure fails; empty if it fails none."""
    params, own, body = program["procs"][proc]
    names = params + own
    if len(names) > MOST_VARIABLES or not are_names(names):
        return "names"
    if any([name in program["globals"] for name in names]):
        return "names"
    if not is_body(body, 1):
        return "form"
    if size(body) + 1 > MOST_POINTS:
        return "points"
    statements = [row[0] for row in points(body)]
    known = program["globals"] + names
    if not all([name in known for statement in statements for name in variables_of(statement)]):
        return "variable"
    if not all([can_call(program["procs"], statement) for statement in statements]):
        return "call"
    return ""


def first_word(thing):
    """The word with which a statement or an expression begins; empty if there is none."""
    if isinstance(thing, tuple) and thing and isinstance(thing[0], str):
        return thing[0]
    return ""


def is_body(thing, depth):
    """Whether a thing is a body that may stand at this depth."""
    if depth > DEEPEST_BODY or not isinstance(thing, tuple):
        return False
    return all([is_statement(statement, depth) for statement in thing])


def is_statement(thing, depth):
    """Whether a thing is a statement that may stand in a body at this depth."""
    kinds = STATEMENTS.get(first_word(thing))
    if kinds is None or len(thing) != 1 + len(kinds):
        return False
    return all([is_part(part, kind, 1, depth + 1) for part, kind in zip(thing[1:], kinds)])


def is_expression(thing, depth):
    """Whether a thing is an expression that may stand at this depth."""
    kinds = EXPRESSIONS.get(first_word(thing))
    if depth > DEEPEST_EXPRESSION or kinds is None or len(thing) != 1 + len(kinds):
        return False
    return all([is_part(part, kind, depth + 1, 0) for part, kind in zip(thing[1:], kinds)])


def is_part(thing, kind, depth, body_depth):
    """Whether a thing is a part of this kind, an expression at depth, a body at body_depth."""
    if kind == "expression":
        return is_expression(thing, depth)
    if kind == "body":
        return is_body(thing, body_depth)
    if kind == "args":
        return isinstance(thing, tuple) and all([is_expression(e, depth) for e in thing])
    if kind == "flag":
        return isinstance(thing, int) and not isinstance(thing, bool) and thing in (0, 1)
    if kind == "target" and thing == "":
        return True
    return is_name(thing)


def variables_of(statement):
    """The variables that stand in a statement, but not those in its bodies."""
    found = []
    kinds = STATEMENTS[statement[0]]
    for part, kind in zip(statement[1:], kinds):
        if kind == "variable" or (kind == "target" and part):
            found.append(part)
        elif kind == "expression":
            found.extend(variables_in(part))
        elif kind == "args":
            for e in part:
                found.extend(variables_in(e))
    return found


def variables_in(e):
    """The variables that stand in an expression."""
    if e[0] == "var":
        return [e[1]]
    if e[0] == "flag":
        return []
    return [name for part in e[1:] for name in variables_in(part)]


def can_call(procs, statement):
    """Whether a statement, if it is a call, calls a procedure with as many params as there are args."""
    if statement[0] != "call":
        return True
    proc, args = statement[1:3]
    return proc in procs and len(procs[proc][0]) == len(args)
