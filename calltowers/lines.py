"""The lines of the text of a program, without the blanks at their beginning (point 10)."""

from calltowers.programs import is_name

OPERATIONS = ("and", "or", "same")


def expression_text(e):
    """The text of an expression."""
    if e[0] == "flag":
        return str(e[1])
    if e[0] == "var":
        return e[1]
    left = expression_text(e[1])
    if e[0] == "not":
        return f"(not {left})"
    return f"({left} {e[0]} {expression_text(e[2])})"


def read_expression(text):
    """The expression with exactly this text; None if there is none."""
    read = []
    # A blank too many leaves an empty word, which is part of no expression; so does a closing
    # bracket at the beginning, and there is always something ahead of one.
    for word in text.replace("(", "( ").replace(")", " )").split(" "):
        if word == ")":
            e = put_together(read[-4:])
            if e is None:
                return None
            del read[-1 - len(e):]
            read.append(e)
        elif word in ("0", "1"):
            read.append(("flag", int(word)))
        else:
            read.append(("var", word) if is_name(word) else word)
    return read[0] if len(read) == 1 and isinstance(read[0], tuple) else None


def put_together(read):
    """The expression in brackets at the end of what is read, when the closing bracket comes; None if there is none."""
    if not isinstance(read[-1], tuple):
        return None
    if read[-3:-1] == ["(", "not"]:
        return ("not", read[-1])
    if len(read) == 4 and read[0] == "(" and isinstance(read[1], tuple) and read[2] in OPERATIONS:
        return (read[2], read[1], read[3])
    return None


def line_of(statement):
    """The line with which the text of a statement begins."""
    word = statement[0].upper()
    if word == "EITHER":
        return word
    if word == "SET":
        return f"{word} {statement[1]} {expression_text(statement[2])}"
    if word in ("PICK", "SAY"):
        return f"{word} {statement[1]}"
    if word == "CALL":
        args = ", ".join([expression_text(e) for e in statement[2]])
        end = f" TO {statement[3]}" if statement[3] else ""
        return f"{word} {statement[1]} ({args}){end}"
    return f"{word} {expression_text(statement[1])}"


def read_line(line):
    """The statement that begins with exactly this line, its bodies being empty; None if there is none."""
    word, _, rest = line.partition(" ")
    if word == "SET":
        return read_set(rest)
    if word in ("PICK", "SAY"):
        return (word.lower(), rest) if is_name(rest) else None
    if word == "CALL":
        return read_call(rest)
    if word in ("BACK", "IF", "WHILE"):
        return read_question(word.lower(), read_expression(rest))
    return ("either", (), ()) if line == "EITHER" else None


def read_set(rest):
    """The statement of a line SET, behind this word."""
    name, _, text = rest.partition(" ")
    e = read_expression(text)
    return ("set", name, e) if is_name(name) and e is not None else None


def read_question(word, e):
    """The statement with this word and only an expression beside its bodies."""
    if e is None:
        return None
    if word == "if":
        return (word, e, (), ())
    return (word, e, ()) if word == "while" else (word, e)


def read_call(rest):
    """The statement of a line CALL, behind this word."""
    proc, _, tail = rest.partition(" (")
    end = tail.rfind(")")
    if end < 0 or not is_name(proc):
        return None
    # No expression contains a comma.
    args = tuple([read_expression(text) for text in tail[:end].split(", ")]) if end > 0 else ()
    target = read_target(tail[end + 1:])
    return None if None in args or target is None else ("call", proc, args, target)


def read_target(text):
    """The variable of a call, told by what stands behind its brackets; None if this is wrong."""
    if text == "":
        return text
    name = text.removeprefix(" TO ")
    return name if name != text and is_name(name) else None
