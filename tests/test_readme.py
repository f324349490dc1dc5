"""The examples of README.md: they run, and where a line tells a value, it is so."""

import ast
import pathlib
import re
import unittest

README = pathlib.Path(__file__).resolve().parent.parent / "README.md"


def literal(text):
    """Return a list with the value that the text, or its part before a colon, is written as; else an empty list."""
    for part in (text, text.rpartition(": ")[0], text.partition(": ")[0]):
        try:
            return [ast.literal_eval(part.strip())]
        except (SyntaxError, ValueError):
            pass
    return []


def one_value(code):
    """Return the expression that the line tells a value of, or None."""
    try:
        row, = ast.parse(code.strip()).body
    except (SyntaxError, ValueError):
        return None
    if isinstance(row, ast.Expr):
        return ast.unparse(row.value)
    if isinstance(row, ast.Assign) and isinstance(row.targets[0], ast.Name):
        return row.targets[0].id
    return None


class ReadmeTest(unittest.TestCase):

    def test_examples(self):
        known, compared = {}, 0
        for block in re.findall(r"```python\n(.*?)```", README.read_text(encoding="utf-8"), re.S):
            exec(compile(block, "README.md", "exec"), known)
            for line in block.split("\n"):
                code, mark, comment = line.partition("  # ")
                expression, values = one_value(code), literal(comment) if mark else []
                # What is set in a block inside of an example is known only there.
                if expression and values and not line.startswith(" "):
                    self.assertEqual([eval(expression, known)], values, line)
                    compared += 1
        self.assertGreater(compared, 25)


if __name__ == "__main__":
    unittest.main()
