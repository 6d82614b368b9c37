"""What README.md shows is what the program tells."""

import ast
import os
import re
import unittest

PLACE = os.path.join(os.path.dirname(os.path.dirname(os.path.abspath(__file__))), "README.md")


def value_behind(lines, part):
    """The value that a comment tells behind a statement or below it; None where it tells none."""
    for line in [lines[part.end_lineno - 1]] + [line for line in lines[part.end_lineno:part.end_lineno + 1] if line.startswith("# ")]:
        if "# " in line:
            try:
                return ast.literal_eval(line.split("# ", 1)[1])
            except (SyntaxError, ValueError):
                return None
    return None


class ReadmeTest(unittest.TestCase):
    def test_each_value_that_is_told(self):
        with open(PLACE, encoding="utf-8") as held:
            code = "\n".join(re.findall(r"```python\n(.*?)```", held.read(), re.S))
        lines, names, many = code.split("\n"), {}, 0
        for part in ast.parse(code).body:
            wanted = value_behind(lines, part)
            if isinstance(part, ast.Expr) and wanted is not None:
                self.assertEqual(eval(ast.unparse(part), names), wanted)
                many += 1
            else:
                exec(ast.unparse(part), names)
        self.assertEqual(many, 15)


if __name__ == "__main__":
    unittest.main()
