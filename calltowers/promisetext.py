"""The text of a promise, and back (point 38)."""

from calltowers.errors import PromiseError
from calltowers.programs import LETTERS, LONGEST_NAME, is_name
from calltowers.promises import DEEPEST_PROMISE, KINDS, looks_too_far

# The words that can begin a promise, with all that surely stands behind them.
BEGINNINGS = ("yes", "call", "back", "say", "quiet", "not ", "next ", "over ", "(")
MIDDLES = (" and ", " or ", " until ", " across ")
ENDS = (")",)


def promise_text(promise):
    """The text of a promise."""
    word = promise[0]
    if word == "yes":
        return word
    if word == "at":
        return f"{promise[1]}:{promise[2]}" if promise[2] else promise[1]
    left = promise_text(promise[1])
    if len(promise) == 2:
        return f"{word} {left}"
    return f"({left} {word} {promise_text(promise[2])})"


def read_promise(text):
    """The promise with exactly this text; raises PromiseError with the place that is wrong."""
    reader = PromiseReader(text)
    promise = reader.read(1)
    if reader.at < len(text) or looks_too_far(promise):
        raise PromiseError(reader.at)
    return promise


class PromiseReader:
    """The reader of the text of a promise: it has come to the place at."""

    def __init__(self, text):
        self.text = text
        self.at = 0

    def read(self, depth):
        """Reads a promise that is nested so deep in the whole one."""
        if depth > DEEPEST_PROMISE:
            raise PromiseError(self.at)
        beginning = self.one_of(BEGINNINGS)
        word = beginning.strip(" ")
        if word == "yes":
            return (word,)
        if word in KINDS:
            return ("at", word, self.name_behind())
        if word != "(":
            return (word, self.read(depth + 1))
        left = self.read(depth + 1)
        middle = self.one_of(MIDDLES)
        right = self.read(depth + 1)
        self.one_of(ENDS)
        return (middle.strip(" "), left, right)

    def one_of(self, words):
        """Reads one of these words, none of which is the beginning of another one."""
        shared = [self.shared_with(word) for word in words]
        most = max(shared)
        word = words[shared.index(most)]
        if most < len(word):
            raise PromiseError(self.at + most)
        self.at += most
        return word

    def shared_with(self, word):
        """How many characters the text has, from here on, like the beginning of a word."""
        ahead = self.text[self.at:self.at + len(word)]
        alike = 0
        while alike < len(ahead) and ahead[alike] == word[alike]:
            alike += 1
        return alike

    def name_behind(self):
        """Reads a colon and a name, if there is a colon; otherwise the name is ""."""
        if self.text[self.at:self.at + 1] != ":":
            return ""
        start = self.at + 1
        name = self.text[start:start + LONGEST_NAME]
        name = name[:len(name) - len(name.lstrip(LETTERS))]
        self.at = start + len(name)
        if not is_name(name):
            raise PromiseError(self.at)
        return name
