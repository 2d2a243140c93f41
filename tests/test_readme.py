"""README.md: its examples run, and tell what stands beside them."""

import re
import unittest
from pathlib import Path

README = Path(__file__).resolve().parent.parent / "README.md"


def blocks():
    return re.findall(r"```python\n(.*?)```", README.read_text(encoding="utf-8"), re.S)


class ReadmeTest(unittest.TestCase):
    def test_the_examples_run(self):
        self.assertGreater(len(blocks()), 5)
        names = {}
        for block in blocks():
            exec(block.replace("print(", "str("), names)

    def test_what_is_told_beside_them(self):
        """Each line that is told to be a value, by a comment that is one, has that value."""
        names, held = {}, 0
        for block in blocks():
            lines = []
            for line in block.split("\n"):
                told = re.fullmatch(r"([^\s#=][^#=]*(?:\(.*\))?[^#]*?)\s+# (.*)", line)
                value = told and re.match(r"(\(.*\)|\[.*\]|\{.*\}|'.*'|True|False|None|\d+)", told[2])
                if value and "..." not in told[2] and " = " not in told[1]:
                    held += 1
                    lines.append(f"assert ({told[1]}) == ({value[1]}), {line!r}")
                else:
                    lines.append(line)
            exec("\n".join(lines).replace("print(", "str("), names)
        self.assertGreater(held, 20)


if __name__ == "__main__":
    unittest.main()
