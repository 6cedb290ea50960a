"""What README.md tells of its examples is what they tell."""

import pathlib
import re
import unittest

README = pathlib.Path(__file__).resolve().parent.parent / "README.md"
BLOCK = re.compile(r"```python\n(.*?)```", re.DOTALL)
TELLING = re.compile(r"(?:\w+ = )?(\w+\(.*\)) +# (.*)")


class Readme(unittest.TestCase):
    def test_examples(self):
        names = {}
        told = 0
        for block in BLOCK.findall(README.read_text(encoding="utf-8")):
            exec(block, names)
            for row in block.split("\n"):
                match = TELLING.fullmatch(row)
                if match:
                    self.assertEqual(repr(eval(match[1], names)), match[2], row)
                    told += 1
        self.assertGreater(told, 15)


if __name__ == "__main__":
    unittest.main()
