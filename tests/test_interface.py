"""Each function and class of the interface stands in its file, with its arguments."""

import ast
import importlib
import pathlib
import unittest

PACKAGE = pathlib.Path(__file__).resolve().parent.parent / "calltowers"

FUNCTIONS = {
    "programs": {"is_name": ["text"], "check_program": ["program"]},
    "programtext": {"program_text": ["program"], "read_program": ["text"]},
    "flow": {"points": ["body"]},
    "player": {
        "evaluate": ["program", "proc", "e", "shared", "values"], "first": ["program"],
        "step": ["program", "configuration", "choice"],
    },
    "order": {"rank": ["thing"]},
    "pushdowns": {
        "use": ["rule", "configuration"], "play": ["rules", "configuration", "numbers"], "rules_of": ["program"],
        "head_of": ["program"],
    },
    "stacks": {
        "accepts": ["machine", "configuration"], "is_plain": ["rules", "machine"], "predecessors": ["rules", "machine"],
        "successors": ["rules", "machine"], "takes_backwards": ["rules", "machine"], "takes_forwards": ["rules", "machine"],
    },
    "endings": {"endings": ["rules"], "steps_between": ["rules", "head"], "met": ["rules", "head"]},
    "rounds": {
        "takes_round": ["rules", "head", "paper"], "written_out": ["parts", "items", "n"], "length": ["parts", "items"],
    },
    "rests": {"takes_rest": ["rules", "head", "paper"]},
    "endless": {"endless": ["rules", "head"]},
    # The language bars the name round, so the third argument has another one.
    "promises": {"is_promise": ["thing"], "holds": ["promise", "begin", "loop", "i"]},
    "promisetext": {"promise_text": ["promise"], "read_promise": ["text"]},
    "product": {"product": ["program", "promise"]},
    "decide": {"decide": ["program", "promise"], "depth": ["program"], "can_say": ["program", "word"]},
    "nested": {
        "takes_word": ["machine", "word"], "meet": ["first", "second"], "union": ["first", "second"],
        "certain": ["machine", "words"], "other": ["machine", "words"], "shortest_word": ["machine"],
        "difference": ["first", "second", "words"],
    },
    "reports": {"report": ["program", "run", "n"]},
    "tables": {
        "table_of": ["machine", "states", "symbols"], "has": ["table", "configuration"], "meet": ["first", "second"],
        "union": ["first", "second"], "minus": ["first", "second"], "least": ["table"], "difference": ["first", "second"],
        "machine_of": ["table"],
    },
    "safety": {"safety": ["program", "danger"], "takes_safety": ["program", "danger", "machine"]},
    "prices": {"few_calls": ["program", "word"], "price": ["rules", "tale"], "depth_needed": ["program", "word"]},
    "counting": {
        "count": ["table", "n"], "place_of": ["table", "configuration"], "configuration_at": ["table", "n", "place"],
    },
    "ending": {"always_ends": ["program"]},
    "traces": {
        "names_of": ["program"], "trace_machine": ["program"], "breach": ["program", "machine"], "apart": ["first", "second"],
    },
}
METHODS = {("desk", "Desk"): {"__init__": ["self"], "answer": ["self", "text"]}}
ERRORS = {
    "TowerError": None, "ProgramError": ["code", "proc"], "TextError": ["at"], "EndedError": ["code"], "PlayError": ["at"],
    "PromiseError": ["at"],
}


def defined(module, kind):
    """The functions or the classes that a file defines, by name."""
    tree = ast.parse((PACKAGE / (module + ".py")).read_text())
    return {node.name: node for node in tree.body if isinstance(node, kind)}


class InterfaceTest(unittest.TestCase):
    def test_functions(self):
        for module, functions in FUNCTIONS.items():
            found = defined(module, ast.FunctionDef)
            for name, arguments in functions.items():
                self.assertIn(name, found, module)
                self.assertEqual([arg.arg for arg in found[name].args.args], arguments, name)
                self.assertEqual(found[name].args.defaults, [], name)

    def test_methods(self):
        for (module, name), methods in METHODS.items():
            found = {node.name: node for node in defined(module, ast.ClassDef)[name].body if isinstance(node, ast.FunctionDef)}
            for method, arguments in methods.items():
                self.assertEqual([arg.arg for arg in found[method].args.args], arguments)
                self.assertEqual(found[method].args.defaults, [])

    def test_all_can_be_imported(self):
        for module, names in list(FUNCTIONS.items()) + [(module, [name]) for module, name in METHODS] + [("errors", ERRORS)]:
            found = importlib.import_module("calltowers." + module)
            for name in names:
                self.assertEqual(getattr(found, name).__module__, "calltowers." + module)

    def test_errors(self):
        found = defined("errors", ast.ClassDef)
        self.assertEqual(sorted(found), sorted(ERRORS))
        for name, fields in ERRORS.items():
            base = "ValueError" if fields is None else "TowerError"
            self.assertEqual([node.id for node in found[name].bases], [base])
            if fields is not None:
                made = [node for node in found[name].body if isinstance(node, ast.FunctionDef)]
                self.assertEqual([arg.arg for arg in made[0].args.args], ["self"] + fields)


if __name__ == "__main__":
    unittest.main()
