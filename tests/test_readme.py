"""The examples of README.md hold."""

import pathlib
import unittest

README = pathlib.Path(__file__).resolve().parent.parent / "README.md"


class Examples(unittest.TestCase):
    def test_each_told_value(self):
        code = README.read_text().split("```python\n")[1].split("```")[0]
        names = {}
        told = 0
        for row in code.splitlines():
            call, sign, awaited = row.partition("  # ")
            if sign:
                self.assertEqual(repr(eval(call, names)), awaited, row)
                told += 1
            else:
                exec(row, names)
        self.assertGreater(told, 3)


if __name__ == "__main__":
    unittest.main()
