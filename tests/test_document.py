"""The examples of the document that use the modules there are, with the answers that it writes.

They stand in examples.txt as they stand in the document: a line that begins with # is the answer of the line ahead.
"""

import os
import unittest

EXAMPLES = os.path.join(os.path.dirname(os.path.abspath(__file__)), "examples.txt")


def answer_behind(lines, at):
    behind = lines[at + 1] if at + 1 < len(lines) else ""
    return behind[2:] if behind.startswith("# ") else None


class Examples(unittest.TestCase):
    def test_answers(self):
        with open(EXAMPLES, encoding="ascii") as file:
            blocks = [block.splitlines() for block in file.read().split("\n\n")]
        answers = 0
        for lines in blocks:
            names = {}
            for at, text in enumerate(lines):
                answer = answer_behind(lines, at)
                if text.startswith("# "):
                    continue
                if answer is None:
                    exec(text, names)
                    continue
                found, told = eval(text, names), eval(answer, {})
                self.assertEqual(found, told, text)
                # True is equal to 1, but is written in another way.
                self.assertEqual(repr(found), repr(told), text)
                answers += 1
        self.assertEqual(answers, 72)


if __name__ == "__main__":
    unittest.main()
