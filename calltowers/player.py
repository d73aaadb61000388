"""The steps of a program from configuration to configuration (points 6, 8 and 9)."""

from calltowers.errors import EndedError
from calltowers.flow import points

QUIET = ("quiet", "")


def evaluate(program, proc, e, shared, values):
    """The flag of an expression in a procedure with these values; shared are the flags of the globals."""
    if e[0] == "flag":
        return e[1]
    if e[0] == "var":
        return flag_of(program, proc, e[1], shared, values)
    left = evaluate(program, proc, e[1], shared, values)
    if e[0] == "not":
        return 1 - left
    right = evaluate(program, proc, e[2], shared, values)
    if e[0] == "and":
        return min(left, right)
    if e[0] == "or":
        return max(left, right)
    return 1 if left == right else 0


def first(program):
    """The first configuration of a program."""
    shared = zeros(program["globals"])
    frame = ("main", 0, zeros(own_names(program, "main")))
    return (shared, None, (frame,))


def step(program, configuration, choice):
    """The next configuration, and the mark of the step to it."""
    stack = configuration[2]
    if not stack:
        raise EndedError("ended")
    body = program["procs"][stack[0][0]][2]
    return step_along(program, points(body), configuration, choice)


def step_along(program, rows, configuration, choice):
    """A step from a configuration with a frame on top whose procedure has the points rows."""
    shared, result, stack = configuration
    frame = stack[0]
    if result is None:
        row = rows[frame[1]]
        action = ACTIONS[row[0][0]]
        shared, result, frames, mark = action(program, row, shared, frame, choice)
    else:
        shared, result, frames, mark = take_result(program, rows, shared, frame, result)
    return ((shared, result, frames + stack[1:]), mark)


def zeros(names):
    """A flag 0 for each name."""
    return (0,) * len(names)


def own_names(program, proc):
    """The params and locals of a procedure."""
    params, own, _ = program["procs"][proc]
    return params + own


def flag_of(program, proc, name, shared, values):
    """The flag that a variable has."""
    names = own_names(program, proc)
    if name in names:
        return values[names.index(name)]
    return shared[program["globals"].index(name)]


def assigned(program, proc, name, flag, shared, values):
    """The flags of the globals and the values of the procedure when a variable has become flag."""
    names = own_names(program, proc)
    if name in names:
        return shared, replaced(values, names.index(name), flag)
    return replaced(shared, program["globals"].index(name), flag), values


def replaced(flags, at, flag):
    """The flags with another one at one place."""
    return flags[:at] + (flag,) + flags[at + 1:]


def become(program, frame, name, flag, shared, point):
    """What a step gives that lets a variable become flag and leads to point."""
    proc, _, values = frame
    shared, values = assigned(program, proc, name, flag, shared, values)
    return shared, None, ((proc, point, values),), QUIET


def go_to(shared, frame, point, mark):
    """What a step gives that only leads to point."""
    proc, _, values = frame
    return shared, None, ((proc, point, values),), mark


# All actions take and give the same things, so that one line can call any of them:
# they give (shared, result, the frames in the place of the top one, mark).
def do_set(program, row, shared, frame, choice):
    statement, behind = row[:2]
    flag = evaluate(program, frame[0], statement[2], shared, frame[2])
    return become(program, frame, statement[1], flag, shared, behind)


def do_pick(program, row, shared, frame, choice):
    return become(program, frame, row[0][1], choice, shared, row[1])


def do_say(program, row, shared, frame, choice):
    return go_to(shared, frame, row[1], ("say", row[0][1]))


def do_question(program, row, shared, frame, choice):
    statement, _, yes, no = row
    flag = evaluate(program, frame[0], statement[1], shared, frame[2])
    return go_to(shared, frame, yes if flag == 1 else no, QUIET)


def do_either(program, row, shared, frame, choice):
    return go_to(shared, frame, row[2] if choice == 0 else row[3], QUIET)


def do_call(program, row, shared, frame, choice):
    proc, point, values = frame
    callee, args = row[0][1:3]
    flags = tuple([evaluate(program, proc, e, shared, values) for e in args])
    own = program["procs"][callee][1]
    waiting = (proc, -1 - point, values)
    called = (callee, 0, flags + zeros(own))
    return shared, None, (called, waiting), ("call", callee)


def do_back(program, row, shared, frame, choice):
    flag = evaluate(program, frame[0], row[0][1], shared, frame[2])
    return shared, flag, (), ("back", frame[0])


def take_result(program, rows, shared, frame, result):
    """What a step gives by which the waiting frame takes the result of its call."""
    statement, behind = rows[-1 - frame[1]][:2]
    if statement[3] == "":
        return go_to(shared, frame, behind, QUIET)
    return become(program, frame, statement[3], result, shared, behind)


ACTIONS = {
    "set": do_set,
    "pick": do_pick,
    "say": do_say,
    "call": do_call,
    "back": do_back,
    "if": do_question,
    "while": do_question,
    "either": do_either,
}
