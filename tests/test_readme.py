"""README.md: what it says of its examples is what they return."""

import re
import unittest
from pathlib import Path

README = Path(__file__).resolve().parent.parent / "README.md"


class Examples(unittest.TestCase):

    def test_each_line_returns_what_is_told_behind_it(self):
        checked = 0
        for block in re.findall(r"```python\n(.*?)```", README.read_text(encoding="utf-8"), re.S):
            names = {}
            for line in block.split("\n"):
                code, _, told = line.partition("  # ")
                if told:
                    self.assertEqual(eval(code, names), eval(told), line)
                    checked += 1
                else:
                    exec(line, names)
        self.assertGreater(checked, 20)


if __name__ == "__main__":
    unittest.main()
