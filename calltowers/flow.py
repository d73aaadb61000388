"""The points of a procedure, and where each one leads (point 7)."""

LAST_STATEMENT = ("back", ("flag", 0))


def bodies_of(statement):
    """The tuple of the bodies that a statement has."""
    if statement[0] in ("if", "while"):
        return statement[2:]
    if statement[0] == "either":
        return statement[1:]
    return ()


def size(body):
    """How many statements a body has, those of the bodies in it included."""
    many = len(body)
    for statement in body:
        for inner in bodies_of(statement):
            many += size(inner)
    return many


def points(body):
    """The list of the points of a procedure: (statement, behind, yes, no)."""
    rows = laid_out(body, 0, size(body))
    rows.append((LAST_STATEMENT, None, None, None))
    return rows


def laid_out(body, start, end):
    """The points of a body, the first one with the number start; its end leads to the point end."""
    rows = []
    for index, statement in enumerate(body):
        at = start + len(rows)
        is_last = index + 1 == len(body)
        behind = end if is_last else at + size((statement,))
        rows.append(row_of(statement, at, behind))
        # What stands behind a while would skip its question, so its body leads back to it.
        onward = at if statement[0] == "while" else behind
        for inner in bodies_of(statement):
            rows.extend(laid_out(inner, start + len(rows), onward))
    return rows


def row_of(statement, at, behind):
    """The tuple of a point: where an empty body leads is where its end would lead."""
    bodies = bodies_of(statement)
    if statement[0] == "while":
        return (statement, behind, at + 1 if bodies[0] else at, behind)
    if bodies:
        yes = at + 1 if bodies[0] else behind
        no = at + 1 + size(bodies[0]) if bodies[1] else behind
        return (statement, behind, yes, no)
    return (statement, behind, None, None)
