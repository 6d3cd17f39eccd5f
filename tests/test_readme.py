"""The sessions of README.md tell what the program does."""

import pathlib
import re
import unittest

from tests.sessions import run_session

README = pathlib.Path(__file__).parent.parent / "README.md"


class ReadmeTest(unittest.TestCase):

    def test_sessions(self):
        text = README.read_text(encoding="utf-8")
        blocks = re.findall(r"```python\n(.*?)```", text, re.DOTALL)
        self.assertGreater(len(blocks), 3)
        run_session(self, "".join(blocks))


if __name__ == "__main__":
    unittest.main()
