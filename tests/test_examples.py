"""The examples of the interface, as they stand there."""

import os
import unittest

FOLDER = os.path.join(os.path.dirname(os.path.abspath(__file__)), "examples")


def examples(name):
    """The list of (source, expected line or None) of one file of examples."""
    with open(os.path.join(FOLDER, name)) as rows:
        lines = rows.read().splitlines()
    found = []
    for line in lines:
        if line.startswith(">>> "):
            found.append((line[4:], None))
        else:
            source, expected = found[-1]
            assert expected is None
            found[-1] = (source, line)
    return found


class TestExamples(unittest.TestCase):
    def run_file(self, name):
        space = {}
        for source, expected in examples(name):
            with self.subTest(file=name, source=source):
                if expected is None:
                    exec(source, space)
                elif expected.startswith("raises "):
                    with self.assertRaises(Exception) as caught:
                        eval(source, space)
                    error = caught.exception
                    shown = ", ".join(repr(value) for value in vars(error).values())
                    self.assertEqual(f"raises {type(error).__name__}({shown})", expected)
                else:
                    self.assertEqual(repr(eval(source, space)), expected)

    def test_all_files(self):
        names = sorted(os.listdir(FOLDER))
        self.assertEqual(len(names), 26)
        for name in names:
            self.run_file(name)


if __name__ == "__main__":
    unittest.main()
