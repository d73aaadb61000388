"""The desk: a program and named promises, and answers to commands about them (points 39 and 40)."""

from calltowers.decide import can_say, decide, depth
from calltowers.errors import ProgramError, PromiseError, TextError
from calltowers.programs import check_program, is_name
from calltowers.programtext import read_program
from calltowers.promisetext import read_promise
from calltowers.reports import report
from calltowers.rounds import length

NO_COMMAND = "NO COMMAND"
DIGITS = "0123456789"
LONGEST_REPORT = 1000


class Desk:
    """A desk: it takes texts and answers with texts."""

    def __init__(self):
        # The program; None until there is one.
        self.held = None
        self.promises = {}
        # What has been decided yet of the promises, by their names.
        self.decisions = {}

    def answer(self, text):
        """The answer to a command."""
        line, newline, rest = text.partition("\n")
        words = line.split(" ")
        if newline:
            return self.answer_to_text(words, rest)
        if words == ["LIST"]:
            return " ".join(sorted(self.promises))
        if self.held is None:
            return NO_COMMAND
        if words == ["DEPTH"]:
            return self.told_depth()
        if len(words) == 2 and words[0] == "CAN" and is_name(words[1]):
            return self.told_saying(words[1])
        if len(words) < 2 or words[1] not in self.promises:
            return NO_COMMAND
        if len(words) == 2 and words[0] == "DECIDE":
            return self.told_decision(words[1])
        if len(words) == 3 and words[0] == "REPORT" and is_number(words[2]):
            return self.told_report(words[1], int(words[2]))
        return NO_COMMAND

    def answer_to_text(self, words, text):
        """The answer to a command of these words with a text behind its line."""
        if words == ["PROGRAM"]:
            return self.take_program(text)
        if len(words) == 2 and words[0] == "PROMISE" and is_name(words[1]):
            return self.take_promise(words[1], text)
        return NO_COMMAND

    def take_program(self, text):
        """Takes the program with this text, if it is right."""
        try:
            program = read_program(text)
            check_program(program)
        except TextError as unread:
            return f"NO TEXT {unread.at}"
        except ProgramError as failed:
            return f"NO {failed.code} {failed.proc}" if failed.proc else f"NO {failed.code}"
        self.held = program
        self.promises = {}
        self.decisions = {}
        return "OK"

    def take_promise(self, name, text):
        """Takes the promise with this text under a name."""
        try:
            promise = read_promise(text)
        except PromiseError as unread:
            return f"NO PROMISE {unread.at}"
        self.promises[name] = promise
        self.decisions.pop(name, None)
        return "OK"

    def decision(self, name):
        """What is decided of the promise with this name."""
        if name not in self.decisions:
            self.decisions[name] = decide(self.held, self.promises[name])
        return self.decisions[name]

    def told_decision(self, name):
        """Whether the promise with this name is kept, and how long the run is that breaks it."""
        word, paper = self.decision(name)
        if word == "kept":
            return "KEPT"
        parts, begin, loop = paper
        return f"BROKEN {length(parts, begin)} {length(parts, loop)}"

    def told_report(self, name, n):
        """The first n steps of the run that breaks the promise with this name."""
        word, paper = self.decision(name)
        return "KEPT" if word == "kept" else report(self.held, paper, n)

    def told_depth(self):
        """How deep the stack of the program gets."""
        found = depth(self.held)
        return f"DEEP {found[1]}" if found[0] == "deep" else "ENDLESS"

    def told_saying(self, word):
        """Whether the program can say a word, and in how many steps."""
        tale = can_say(self.held, word)
        return "NO" if tale is None else f"YES {length(tale[0], tale[1])}"


def is_number(word):
    """Whether a word is a number of steps that can be reported."""
    if not word or len(word) > len(str(LONGEST_REPORT)) or not all([digit in DIGITS for digit in word]):
        return False
    return (word == "0" or word[0] != "0") and int(word) <= LONGEST_REPORT
