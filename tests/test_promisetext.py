import unittest

from calltowers.errors import PromiseError
from calltowers.promises import is_promise
from calltowers.promisetext import promise_text, read_promise
from tests.chance import chance, some_promise

YES = ("yes",)
CALL = ("at", "call", "")
RESERVED = ("and", "or", "not", "same")
LETTERS = "abcdefghijklmnopqrstuvwxyz"


def opened(pending):
    """What can be pending instead of a promise or a middle word that stands first."""
    if pending[:1] == ("middle",):
        return {(word,) + pending[1:] for word in (" and ", " or ", " until ", " across ")}
    if pending[:1] != ("promise",):
        return {pending}
    rest = pending[1:]
    found = {(start, "promise") + rest for start in ("not ", "next ", "over ")}
    found |= {("(", "promise", "middle", "promise", ")") + rest, ("yes",) + rest}
    for kind in ("call", "back", "say", "quiet"):
        found |= {(kind,) + rest, (kind + ":", "name") + rest}
    return found


def after_letter(pending, sign):
    """All that can be pending when one more character has been read; a name that has begun is a tuple of its letters."""
    if not pending:
        return set()
    if pending[0] == "name" or isinstance(pending[0], tuple):
        read = "" if pending[0] == "name" else pending[0][0]
        found = {((read + sign,),) + pending[1:]} if sign in LETTERS and len(read) < 8 else set()
        if read and read not in RESERVED:
            found |= after_opened(pending[1:], sign)
        return found
    if pending[0][:1] != sign:
        return set()
    rest = pending[0][1:]
    return {((rest,) if rest else ()) + pending[1:]}


def after_opened(pending, sign):
    return {after for near in opened(pending) for after in after_letter(near, sign)}


def goes_on_to(text):
    """The index of the first character at which no text of a promise goes on so, or the length of the text."""
    states = {("promise",)}
    for at, sign in enumerate(text):
        states = {after for pending in states for after in after_opened(pending, sign)}
        if not states:
            return at
    return len(text)


class TextTest(unittest.TestCase):
    def assert_text(self, promise, text):
        self.assertEqual(promise_text(promise), text)
        self.assertEqual(read_promise(text), promise)

    def test_each_form(self):
        self.assert_text(YES, "yes")
        for kind in ("call", "back", "say", "quiet"):
            self.assert_text(("at", kind, ""), kind)
            for name in ("p", "andy", "sam", "no", "yes", "call", "eightabc", "until", "nota"):
                self.assert_text(("at", kind, name), kind + ":" + name)
        self.assert_text(("not", YES), "not yes")
        self.assert_text(("next", YES), "next yes")
        self.assert_text(("over", YES), "over yes")
        for word in ("and", "or", "until", "across"):
            self.assert_text((word, YES, CALL), "(yes " + word + " call)")

    def test_nested(self):
        self.assert_text(("not", ("at", "call", "p")), "not call:p")
        self.assert_text(("and", ("not", YES), ("not", ("or", YES, CALL))), "(not yes and not (yes or call))")
        self.assert_text(("not", ("and", ("or", YES, CALL), ("until", YES, YES))), "not ((yes or call) and (yes until yes))")
        self.assert_text(("next", ("over", ("not", ("next", YES)))), "next over not next yes")
        self.assert_text(("across", ("at", "say", "hi"), ("across", YES, ("at", "back", "p"))),
                         "(say:hi across (yes across back:p))")
        self.assert_text(("until", ("until", YES, CALL), YES), "((yes until call) until yes)")

    def test_promises_by_chance(self):
        for seed in range(400):
            promise = some_promise(chance(seed), 4)
            if is_promise(promise):
                self.assert_text(promise, promise_text(promise))

    def test_deepest_and_greatest(self):
        self.assert_text(nested_not(8), "not " * 7 + "yes")
        self.assert_text(("over", ("not", nested_not(6))), "over " + "not " * 6 + "yes")
        brackets = YES
        for _ in range(7):
            brackets = ("or", brackets, YES)
        self.assert_text(brackets, "(" * 7 + "yes" + " or yes)" * 7)
        self.assert_text(("next", ("next", ("over", ("next", ("over", ("next", YES)))))),
                         "next next over next over next yes")

    def test_nothing_is_changed(self):
        promise = ("until", YES, ("at", "say", "hi"))
        promise_text(promise)
        self.assertEqual(promise, ("until", YES, ("at", "say", "hi")))


def nested_not(depth):
    promise = YES
    for _ in range(depth - 1):
        promise = ("not", promise)
    return promise


class WrongTextTest(unittest.TestCase):
    def error(self, text):
        with self.assertRaises(PromiseError) as caught:
            read_promise(text)
        return caught.exception.at

    def assert_wrong(self, at, *texts):
        for text in texts:
            self.assertEqual(self.error(text), at, text)
            self.assertEqual(goes_on_to(text), at, text)

    def assert_begun(self, *texts):
        """These are only beginnings of texts."""
        for text in texts:
            self.assert_wrong(len(text), text)

    def test_an_empty_text(self):
        self.assert_begun("")

    def test_a_wrong_first_letter(self):
        self.assert_wrong(0, "x", " ", " yes", "Yes", "\n", ")", ":p", "and", "until", "release yes", "0", "1", "\u00e9", "#yes")

    def test_beginnings(self):
        self.assert_begun("y", "ye", "n", "no", "not", "not ", "ne", "next", "next ", "o", "over", "over ", "c", "cal", "q", "qui",
                          "s", "sa", "b", "bac", "(", "(y", "(yes", "(yes ", "(yes a", "(yes an", "(yes and", "(yes and ",
                          "(yes and y", "(yes and yes", "(yes ac", "(yes across", "(yes u", "(yes o", "(yes or", "(yes or ",
                          "not not", "call:", "back:", "say:", "quiet:", "(call:p", "((", "not (", "(call:p and say:")

    def test_wrong_words(self):
        self.assert_wrong(1, "nyes", "oyes", "yyes", "sy", "c:p", "qyes")
        self.assert_wrong(2, "nop", "yep", "ney", "sax", "sall", "cap", "ova")
        self.assert_wrong(3, "nota", "not(yes)", "not:p", "bacq")
        self.assert_wrong(4, "nextyes", "next(yes)", "overyes", "quiex")

    def test_blanks(self):
        self.assert_wrong(3, "yes ", "yes yes", "yes\n")
        self.assert_wrong(4, "not  yes", "not \nyes", "call ", "call :p", "(yesand yes)")
        self.assert_wrong(1, "( yes and yes)")
        self.assert_wrong(5, "call: p", "next  yes", "(yes  and yes)", "over  yes")
        self.assert_wrong(8, "(yes andyes)", "(yes and(yes or yes))")
        self.assert_wrong(9, "(yes and  yes)")
        self.assert_wrong(12, "(yes and yes )", "(yes and yes\n)")
        self.assert_wrong(13, "(yes and yes) ", "(yes and yes)\n")
        self.assert_wrong(6, "call:p ", "call:p and yes")

    def test_names(self):
        self.assert_wrong(13, "call:eightabci", "back:eightabcx")
        self.assert_wrong(14, "(back:eightabcd and yes)")
        self.assert_wrong(5, "call:P", "call:1", "call::p", "call:(p)", "call:_", "back:\u00e9")
        self.assert_wrong(6, "call:pP", "call:p1", "call:p:q", "call:p)", "quiet:")
        self.assert_wrong(7, "quiet:p ", "quiet:p1")

    def test_names_that_are_none(self):
        # They could still go on, or else they go on wrongly where they end.
        for word in RESERVED:
            self.assert_begun("call:" + word, "(say:" + word, "not quiet:" + word)
            size = len(word)
            self.assert_wrong(5 + size, "call:" + word + " ", "call:" + word + ")", "back:" + word + "1")
            self.assert_wrong(6 + size, "(call:" + word + " and yes)", "(back:" + word + ")")
            self.assertEqual(read_promise("call:" + word + "x"), ("at", "call", word + "x"))
            self.assert_wrong(13, "call:" + (word + "abcdefgh")[:8] + "z")

    def test_a_name_behind_each_kind(self):
        for kind in ("call", "back", "say", "quiet"):
            self.assert_begun(kind + ":")
            self.assert_wrong(len(kind) + 1, kind + ":#", kind + ": p")
            self.assert_wrong(len(kind) + 2, kind + ":p#", kind + ":p p")
        self.assert_wrong(3, "yes:p", "not:p", "yes:")

    def test_brackets(self):
        self.assert_wrong(12, "(yes and yes")
        self.assert_wrong(13, "(yes and yes))", "(yes and yes)(")
        self.assert_wrong(4, "(yes)", "(yes,yes)", "(yes)and yes)")
        self.assert_wrong(14, "((yes and yes))")
        self.assert_wrong(15, "((yes and yes) ")
        self.assert_wrong(1, "()", "(and yes)", "(]")
        self.assert_wrong(3, "yes)", "yes and yes", "yes(")
        self.assert_wrong(5, "(yes xor yes)", "(yes same yes)", "(yes not yes)")

    def test_two_words_for_one(self):
        self.assert_wrong(9, "(yes and and yes)", "(yes and until yes)", "(yes and )")
        self.assert_wrong(10, "(yes and or yes)", "(yes and nt yes)")
        self.assert_wrong(12, "(yes and yes and yes)", "(yes and yes or yes)")
        self.assert_wrong(4, "not and yes", "not until")
        self.assert_wrong(3, "yes until yes")

    def test_words_behind_the_end(self):
        self.assert_wrong(3, "yesyes", "yesx", "yes not", "yesterday", "sayyes", "say yes")
        self.assert_wrong(4, "callx", "callcall", "back(", "call back")
        self.assert_wrong(8, "not call x", "not call)", "not backcall")
        self.assert_wrong(13, "(yes and yes)yes", "(yes and yes) and yes")

    def test_too_deep(self):
        self.assertEqual(self.error("not " * 8 + "yes"), 32)
        self.assertEqual(self.error("not " * 8), 32)
        self.assertEqual(self.error("not " * 9 + "yes"), 32)
        self.assertEqual(self.error("not " * 8 + "#"), 32)
        self.assertEqual(self.error("not " * 7 + "not"), 31)
        self.assertEqual(self.error("not " * 7 + "nox"), 30)
        self.assertEqual(self.error("next " * 8 + "yes"), 40)
        self.assertEqual(self.error("not " * 7 + "(yes and yes)"), 29)
        self.assertEqual(self.error("(" * 8 + "yes" + " or yes)" * 8), 8)
        self.assertEqual(self.error("(" * 100000), 8)
        # The second part of the innermost bracket is as deep as the first.
        start = "(yes or " * 7
        self.assertEqual(read_promise(start + "yes" + ")" * 7)[0], "or")
        self.assertEqual(self.error(start + "not yes" + ")" * 7), len(start) + 4)
        self.assertEqual(self.error("(" * 7 + "yes or over yes"), 19)

    def test_too_many_parts_that_look_ahead(self):
        text = "next " * 7 + "yes"
        self.assertEqual(read_promise(text[5:])[0], "next")
        self.assertEqual(self.error(text), len(text))
        parts = ["next yes", "over yes", "(yes until call)", "(yes across call)", "next call", "over call"]
        six, seven = parts[0], "over back"
        for part in parts[1:]:
            six = "(" + six + " or " + part + ")"
        self.assertEqual(read_promise(six)[0], "or")
        self.assertEqual(read_promise("(" + six + " and next yes)")[0], "and")
        text = "(" + six + " and " + seven + ")"
        self.assertEqual(self.error(text), len(text))
        self.assertEqual(self.error(text + " "), len(text))
        self.assertEqual(self.error(text + ")"), len(text))
        # Ahead of the end it is wrong where it goes on wrongly.
        self.assertEqual(self.error(text[:-1]), len(text) - 1)
        self.assertEqual(self.error(text[:-1] + "#"), len(text) - 1)

    def test_every_place_of_some_texts(self):
        texts = ["(not call:p until (say or quiet:an))", "not over (back:orc across next yes)",
                 "((yes and call:same) or x)", "(call:not or yes)", "next next (quiet and say:eightabc)"]
        for text in texts:
            for at in range(len(text) + 1):
                for sign in " ():#acehlnorstuyxqb\n":
                    for other in (text[:at] + sign + text[at:], text[:at] + sign + text[at + 1:], text[:at] + text[at + 1:]):
                        self.assert_like_the_automaton(other)

    def assert_like_the_automaton(self, text):
        try:
            promise = read_promise(text)
        except PromiseError as error:
            self.assertEqual(error.at, goes_on_to(text), text)
        else:
            self.assertEqual(promise_text(promise), text)

    def test_it_is_a_tower_error(self):
        with self.assertRaises(ValueError):
            read_promise("")


if __name__ == "__main__":
    unittest.main()
