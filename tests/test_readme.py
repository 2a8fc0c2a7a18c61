"""What README.md shows is what the program answers."""

import pathlib
import re
import unittest

README = pathlib.Path(__file__).resolve().parent.parent / "README.md"


class Readme(unittest.TestCase):
    def test_each_row(self):
        text = README.read_text()
        known = {}
        shown = 0
        for block in re.findall(r"```python\n(.*?)```", text, re.DOTALL):
            for row in block.splitlines():
                code, mark, value = row.partition("  # ")
                if mark:
                    with self.subTest(row):
                        self.assertEqual(eval(code, known), eval(value, known))
                    shown += 1
                else:
                    exec(row, known)
        self.assertGreater(shown, 60)

    def test_each_function_is_named(self):
        from test_interface import FUNCTIONS

        text = README.read_text()
        for module, functions in FUNCTIONS.items():
            row = [row for row in text.splitlines() if row.startswith(f"| `{module.__name__.replace('.', '/')}.py` ")]
            self.assertEqual(len(row), 1, module.__name__)
            for name in functions:
                self.assertIn(f"`{name}`", row[0])


if __name__ == "__main__":
    unittest.main()
