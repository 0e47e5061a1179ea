"""The code in README.md can be run, and an expression has the value that its comment begins with."""

import ast
import contextlib
import io
import re
import unittest
from pathlib import Path

README = Path(__file__).resolve().parent.parent / "README.md"


class Readme(unittest.TestCase):
    def test_the_code_does_what_it_says(self):
        known = {}
        looked_at = 0
        for block in re.findall(r"```python\n(.*?)```", README.read_text(encoding="utf-8"), re.S):
            lines = block.split("\n")
            for node in ast.parse(block).body:
                code = ast.get_source_segment(block, node)
                told = lines[node.end_lineno - 1][node.end_col_offset:].strip()
                with self.subTest(code=code), contextlib.redirect_stdout(io.StringIO()):
                    if isinstance(node, ast.Expr):
                        value = repr(eval(code, known))
                        if told and value != "None":
                            looked_at += 1
                            self.assertTrue(told.startswith("# " + value), (told, value))
                    else:
                        exec(code, known)
        self.assertGreater(looked_at, 20)
