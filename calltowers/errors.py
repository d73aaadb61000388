"""The errors that the program raises."""


class TowerError(ValueError):
    """The base class of all errors that the program raises."""


class ProgramError(TowerError):
    """A program does not pass the check: the code of what fails, and in which procedure."""

    def __init__(self, code, proc):
        self.code = code
        self.proc = proc


class TextError(TowerError):
    """A text is not that of a program: the index of the first wrong line."""

    def __init__(self, at):
        self.at = at


class EndedError(TowerError):
    """There is no step, since the stack is empty: the code is always "ended"."""

    def __init__(self, code):
        self.code = code


class PlayError(TowerError):
    """A play does not go through: the index of the first number that cannot be used."""

    def __init__(self, at):
        self.at = at


class PromiseError(TowerError):
    """A text is not that of a promise: the index of the first wrong character."""

    def __init__(self, at):
        self.at = at
