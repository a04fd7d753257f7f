"""What README.md shows of the program's use runs as it stands there."""

import pathlib
import re
import unittest

README = pathlib.Path(__file__).resolve().parent.parent / "README.md"
PACKAGE = README.parent / "swellways"


class Readme(unittest.TestCase):
    def test_its_code_runs(self):
        blocks = re.findall(r"```python\n(.*?)```", README.read_text(), re.DOTALL)
        self.assertGreater(len(blocks), 3)
        names = {}
        for block in blocks:
            exec(block, names)

    def test_it_tells_of_each_module(self):
        for path in PACKAGE.glob("*.py"):
            if path.stem != "__init__":
                self.assertIn(f"`swellways.{path.stem}`", README.read_text())


if __name__ == "__main__":
    unittest.main()
