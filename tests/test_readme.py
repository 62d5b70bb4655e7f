"""The examples in README.md: they run, and print what stands behind `print` in them."""

import contextlib
import io
import pathlib
import re
import unittest

README = pathlib.Path(__file__).parent.parent / "README.md"


class ReadmeTest(unittest.TestCase):
    def test_examples(self):
        code = "\n".join(re.findall(r"```python\n(.*?)```", README.read_text(), re.S))
        self.assertGreater(code.count("assert"), 20)
        wanted = [line[2:] for line in code.split("\n") if line.startswith("# ")]
        printed = io.StringIO()
        with contextlib.redirect_stdout(printed):
            exec(compile(code, "README.md", "exec"), {})
        self.assertEqual(printed.getvalue().split("\n")[:-1], wanted)
