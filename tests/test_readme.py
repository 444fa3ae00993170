"""The examples in README.md."""

from pathlib import Path
from unittest import TestCase


class ReadmeTest(TestCase):

    def test_each_told_answer(self):
        text = (Path(__file__).parent.parent / "README.md").read_text()
        code = text.partition("```python\n")[2].partition("```")[0]
        known = {}
        checked = 0
        for row in code.splitlines():
            call, mark, told = row.partition("  # ")
            if not mark:
                exec(row, known)
            elif told.strip().endswith("...]"):
                start = told.strip()[:-len(", ...]")]
                self.assertTrue(repr(eval(call, known)).startswith(start), row)
                checked += 1
            else:
                self.assertEqual(repr(eval(call, known)), told.strip())
                checked += 1
        self.assertEqual(checked, 42)
