"""What README.md says that its lines tell is what they tell."""

import ast
import re
import unittest
from pathlib import Path

README = Path(__file__).resolve().parent.parent / "README.md"


def value_in(comment):
    """The value with which a comment begins, perhaps followed by a colon and words."""
    ends = [len(comment)] + [found.start() for found in re.finditer(": ", comment)]
    for end in ends:
        try:
            return ast.literal_eval(comment[:end])
        except (SyntaxError, ValueError):
            continue
    raise AssertionError(f"no value in {comment!r}")


class TestReadme(unittest.TestCase):
    def test_each_line(self):
        names = {}
        for block in re.findall(r"```python\n(.*?)```", README.read_text(), re.DOTALL):
            for line in block.splitlines():
                code, mark, comment = line.partition("  #")
                if mark:
                    with self.subTest(line=line):
                        self.assertEqual(eval(code, names), value_in(comment.strip()))
                else:
                    exec(code, names)


if __name__ == "__main__":
    unittest.main()
