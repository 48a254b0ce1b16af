"""README.md tells of the program as it is."""

import pathlib
import re
import unittest

ROOT = pathlib.Path(__file__).resolve().parent.parent
TEXT = (ROOT / "README.md").read_text()


class ReadmeTest(unittest.TestCase):
    def test_each_example_answers_as_it_is_told(self):
        names = {}
        told = 0
        for row in re.findall(r"```python\n(.*?)```", TEXT, re.S)[0].splitlines():
            code, _, answer = row.partition("  # ")
            if not answer or row.startswith("#"):
                exec(code, names)
                continue
            answer = answer.strip().partition(": ")[0]
            self.assertEqual(eval(answer, names), eval(code, names), row)
            told += 1
        self.assertGreater(told, 8)

    def test_each_module_is_told_of(self):
        table = TEXT[TEXT.index("| module |"):]
        for path in (ROOT / "swaykeep").glob("*.py"):
            if path.name != "__init__.py":
                self.assertIn(f"`{path.stem}`", table)


if __name__ == "__main__":
    unittest.main()
