"""Reports of runs: their steps, line by line (point 37)."""

from calltowers.pushdowns import rules_of
from calltowers.rounds import written_out


def report(program, run, n):
    """The text of the first n steps of a run, or of all if the run ends before."""
    parts, begin, loop = run
    numbers = written_out(parts, begin, n)
    turn = written_out(parts, loop, n - len(numbers))
    while turn and len(numbers) < n:
        numbers.extend(turn[:n - len(numbers)])
    # The last line ends with a newline like the others, so a report of no steps is the empty text.
    return "".join([line + "\n" for line in lines_of(rules_of(program), numbers)])


def lines_of(rules, numbers):
    """The list of the lines for these rules, without their newlines, as far as the stack is not empty ahead of them."""
    lines = []
    deep = 1
    for at, number in enumerate(numbers):
        if deep == 0:
            break
        _, _, _, w, mark = rules[number]
        deep += len(w) - 1
        kind, name = mark
        lines.append(f"{at} {deep} {kind} {name}" if name else f"{at} {deep} {kind}")
    return lines
