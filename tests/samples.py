"""Programs and parts of programs that several tests use."""

ZERO = ("flag", 0)
ONE = ("flag", 1)
LAST = ("back", ("flag", 0))


def var(name):
    return ("var", name)


def program(body=(), procs=None, shared=(), own=()):
    """A program whose main has these locals and this body, with further procedures."""
    table = {"main": ((), own, body)}
    table.update(procs or {})
    return {"globals": shared, "procs": table}


def nested_not(depth):
    """An expression that is nested so deep."""
    e = ONE
    for _ in range(depth - 1):
        e = ("not", e)
    return e


def nested_body(depth, inner=()):
    """A body that is nested so deep, the innermost one being inner."""
    body = inner
    for _ in range(depth - 1):
        body = (("while", ONE, body),)
    return body


# Each form of expression and of statement at least once, bodies in bodies and empty ones.
ALL_FORMS = {
    "globals": ("g", "h"),
    "procs": {
        "main": ((), ("x", "y"), (
            ("set", "x", ("and", var("g"), ("or", ONE, ("same", var("x"), ("not", var("y")))))),
            ("pick", "g"),
            ("if", var("x"), (("say", "hi"),), ()),
            ("if", var("x"), (), (("say", "ho"),)),
            ("if", ZERO, (), ()),
            ("while", ("not", var("g")), (("pick", "g"), ("while", ONE, ()))),
            ("either", (("call", "p", (var("x"), ("not", ZERO)), "y"),), ()),
            ("either", (), (("either", (("say", "a"),), (("say", "b"),)),)),
            ("call", "q", (), ""),
            ("call", "q", (), "h"),
            ("back", var("y")),
        )),
        "p": (("a", "b"), ("c",), (("set", "c", var("a")), ("back", ("same", var("c"), var("b"))))),
        "q": ((), (), ()),
    },
}

# A recursion without a bound: it goes down as long as the picked flag is 1, then comes back.
DEEP = {
    "globals": ("g",),
    "procs": {
        "main": ((), (), (("call", "p", (), ""), ("say", "done"))),
        "p": ((), ("more",), (
            ("pick", "more"),
            ("if", var("more"), (("call", "p", (), "g"), ("back", ("not", var("g")))), ()),
            ("back", ONE),
        )),
    },
}
