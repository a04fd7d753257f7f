"""What README.md shows of the program's use runs as it stands there, and tells what it says."""

import ast
import pathlib
import re
import unittest

README = pathlib.Path(__file__).resolve().parent.parent / "README.md"
PACKAGE = README.parent / "swellways"


def value_of(remark):
    """The value that a remark begins with, in a tuple; () where it begins with none."""
    for text in (remark, remark.partition(": ")[0], remark.partition("; ")[0]):
        try:
            return (ast.literal_eval(text.strip()),)
        except (ValueError, SyntaxError):
            pass
    return ()


class Readme(unittest.TestCase):
    def test_its_code_tells_what_it_says(self):
        names = {}
        looked = 0
        for block in re.findall(r"```python\n(.*?)```", README.read_text(), re.DOTALL):
            lines = block.split("\n")
            for node in ast.parse(block).body:
                code = ast.unparse(node)
                if not isinstance(node, ast.Expr):
                    exec(code, names)
                    continue
                told = eval(code, names)
                said = value_of(lines[node.end_lineno - 1].partition(" # ")[2])
                if said:
                    looked += 1
                    self.assertEqual(told, said[0], code)
        self.assertGreater(looked, 25)

    def test_it_tells_of_each_module(self):
        for path in PACKAGE.glob("*.py"):
            if path.stem != "__init__":
                self.assertIn(f"`swellways.{path.stem}`", README.read_text())


if __name__ == "__main__":
    unittest.main()
