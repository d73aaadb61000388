"""The text of a program, and the program of a text (point 10)."""

from calltowers.errors import TextError
from calltowers.flow import bodies_of
from calltowers.lines import line_of, read_line
from calltowers.programs import is_name

INDENT = "  "

# For each word between two bodies, the word with which their statement begins.
SECONDS = {"ELSE": "IF", "OR": "EITHER"}


def program_text(program):
    """The text of a program."""
    lines = [" ".join(("GLOBALS",) + program["globals"])]
    for proc in sorted(program["procs"]):
        params, own, body = program["procs"][proc]
        lines.append(" ".join(("PROC", proc) + params))
        if own:
            lines.append(" ".join(("LOCALS",) + own))
        lines.extend(body_lines(body, 1))
    return "".join([line + "\n" for line in lines])


def body_lines(body, depth):
    """The lines of a body."""
    if not body:
        return [INDENT * depth + "PASS"]
    return [line for statement in body for line in statement_lines(statement, depth)]


def statement_lines(statement, depth):
    """The lines of a statement."""
    lines = [INDENT * depth + line_of(statement)]
    bodies = bodies_of(statement)
    if bodies:
        lines.extend(body_lines(bodies[0], depth + 1))
    if statement[0] == "either":
        lines.append(INDENT * depth + "OR")
        lines.extend(body_lines(bodies[1], depth + 1))
    elif statement[0] == "if" and bodies[1]:
        lines.append(INDENT * depth + "ELSE")
        lines.extend(body_lines(bodies[1], depth + 1))
    return lines


def read_program(text):
    """The program with exactly this text; raises TextError for the first line that cannot stand in it."""
    reader = Reader()
    *lines, rest = text.split("\n")
    for at, line in enumerate(lines):
        if not reader.takes(line):
            raise TextError(at)
    if rest or not reader.ends():
        raise TextError(len(lines))
    return reader.program()


class OpenBody:
    """A body that is being read: what it follows, and its statements so far."""

    def __init__(self, word, head):
        self.word = word
        # A statement, or (name, params, locals, body) of a procedure; this body is empty in it so far.
        self.head = head
        self.rows = []
        # Whether it has a line yet, and whether this is the line of an empty body.
        self.begun = False
        self.passed = False

    def can_end(self):
        """Whether it, and the statement that it belongs to, can end here."""
        return self.begun and self.word != "EITHER"

    def filled_head(self):
        """The statement that it belongs to, with this body in its place."""
        body = tuple(self.rows)
        if self.word in ("IF", "EITHER"):
            return self.head[:-2] + (body, ())
        return self.head[:-1] + (body,)


class Reader:
    """What is read of a text, line by line."""

    def __init__(self):
        self.shared = None
        self.procs = {}
        # The bodies that have begun and not ended, each one in the one before it.
        self.bodies = []

    def takes(self, line):
        """Reads the next line; False if it cannot stand here."""
        words = line.split(" ")
        if self.shared is None:
            return self.takes_globals(words)
        if words[0] == "PROC":
            return self.takes_proc(words[1:])
        if words[0] == "LOCALS":
            return self.takes_locals(words[1:])
        bare = line.lstrip(" ")
        depth, odd = divmod(len(line) - len(bare), len(INDENT))
        if odd or not 1 <= depth <= len(self.bodies):
            return False
        if bare == "PASS":
            return self.takes_pass(depth)
        if bare in SECONDS:
            return self.takes_second(bare, depth)
        return self.takes_statement(read_line(bare), depth)

    def takes_globals(self, words):
        """Reads the first line."""
        if words[0] != "GLOBALS" or not all([is_name(word) for word in words[1:]]):
            return False
        self.shared = tuple(words[1:])
        return True

    def takes_proc(self, names):
        """Reads the line with which a procedure begins."""
        if not names or not all([is_name(name) for name in names]) or not self.ends():
            return False
        self.close_proc()
        if any([proc >= names[0] for proc in self.procs]):
            return False
        self.bodies.append(OpenBody("PROC", (names[0], tuple(names[1:]), (), ())))
        return True

    def takes_locals(self, names):
        """Reads the line of the locals, which stands at once behind that of the procedure."""
        if not names or not all([is_name(name) for name in names]) or len(self.bodies) != 1:
            return False
        body = self.bodies[0]
        if body.head[2] or body.begun:
            return False
        body.head = body.head[:2] + (tuple(names), ())
        return True

    def takes_pass(self, depth):
        """Reads the only line of an empty body."""
        body = self.bodies[-1]
        if depth != len(self.bodies) or body.begun or body.word == "ELSE":
            return False
        body.begun = body.passed = True
        return True

    def takes_second(self, word, depth):
        """Reads the line between the two bodies of a statement."""
        if not self.closes_to(depth + 1) or len(self.bodies) != depth + 1:
            return False
        body = self.bodies[-1]
        if body.word != SECONDS[word] or not body.begun:
            return False
        self.bodies[-1] = OpenBody(word, body.filled_head())
        return True

    def takes_statement(self, statement, depth):
        """Reads the line with which a statement begins; it is None if the line has no form."""
        if statement is None or not self.closes_to(depth) or self.bodies[-1].passed:
            return False
        body = self.bodies[-1]
        body.begun = True
        if bodies_of(statement):
            self.bodies.append(OpenBody(statement[0].upper(), statement))
        else:
            body.rows.append(statement)
        return True

    def closes_to(self, depth):
        """Ends the bodies that are deeper; False if one of them cannot end here."""
        while len(self.bodies) > depth:
            body = self.bodies.pop()
            if not body.can_end():
                return False
            self.bodies[-1].rows.append(body.filled_head())
        return True

    def ends(self):
        """Whether the text can end here."""
        return self.shared is not None and all([body.can_end() for body in self.bodies])

    def close_proc(self):
        """Ends the procedure that is being read, if there is one."""
        if self.bodies and self.closes_to(1):
            proc, params, own, body = self.bodies.pop().filled_head()
            self.procs[proc] = (params, own, body)

    def program(self):
        """The program that is read, when the text has ended."""
        self.close_proc()
        return {"globals": self.shared, "procs": self.procs}
