"""Tests that the examples of README.md give what stands beside them."""

import ast
import contextlib
import io
import pathlib
import re
import unittest

README = pathlib.Path(__file__).resolve().parent.parent / "README.md"


class ReadmeTests(unittest.TestCase):

    def test_examples(self):
        blocks = re.findall(r"```python\n(.*?)```", README.read_text(), re.DOTALL)
        self.assertGreater(len(blocks), 5)
        compared = 0
        for block in blocks:
            held = {}
            rows = block.split("\n")
            for node in ast.parse(block).body:
                source = ast.get_source_segment(block, node)
                comment = rows[node.end_lineno - 1].partition("#")[2].strip()
                if isinstance(node, ast.Expr) and comment:
                    self.assertEqual(eval(source, held), ast.literal_eval(comment), source)
                    compared += 1
                    continue
                with contextlib.redirect_stdout(io.StringIO()) as printed:
                    exec(source, held)
                self.assertEqual(printed.getvalue().strip(), comment if printed.getvalue() else "", source)
        self.assertGreater(compared, 30)
