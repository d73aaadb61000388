"""The programs that README.md shows can be played, one behind the other."""

import contextlib
import io
import pathlib
import re
import unittest

README = pathlib.Path(__file__).resolve().parent.parent / "README.md"


class ReadmeTest(unittest.TestCase):
    def test_programs(self):
        text = "\n".join(re.findall(r"```python\n(.*?)```", README.read_text(), re.S))
        shown = io.StringIO()
        with contextlib.redirect_stdout(shown):
            exec(compile(text, "README.md", "exec"), {})
        for line in ("('call', 'p')", "kept True", "('deep', 2)", "KEPT", "YES 5", "BROKEN 3 2", "('ends', 6)", "(1, 5)", "safe True",
                     "(('call', 'p'), ('back', 'p'))", "[2, 7, 3, 0]"):
            self.assertIn(line, shown.getvalue().split("\n"))


if __name__ == "__main__":
    unittest.main()
