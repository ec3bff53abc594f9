"""The examples of the document, run as they are written in examples.txt."""

import pathlib
import re
import unittest

EXAMPLES = pathlib.Path(__file__).with_name("examples.txt")


def read_examples():
    """The triples of the number of a line, of the source in it, and of what it gives, or ''."""
    examples = []
    for number, line in enumerate(EXAMPLES.read_text(encoding="ascii").splitlines(), 1):
        if line.startswith(">>> "):
            examples.append([number, line[4:], ""])
        elif examples and line and not line.startswith("# "):
            examples[-1][2] += line
    return examples


def is_statement(source):
    return source.startswith("from ") or re.match(r"[A-Za-z_, ]+ = ", source) is not None


class Examples(unittest.TestCase):
    def test_all(self):
        names = {}
        examples = read_examples()
        self.assertEqual(len(examples), 171)
        for number, source, told in examples:
            with self.subTest(line=number, source=source):
                self.run_one(source, told, names)

    def run_one(self, source, told, names):
        if is_statement(source):
            self.assertEqual(told, "")
            exec(source, names)
        elif told.startswith("raises "):
            self.run_error(source, told[len("raises "):], names)
        else:
            self.assertEqual(repr(eval(source, names)), repr(eval(told, {})))

    def run_error(self, source, told, names):
        name, fields = re.fullmatch(r"(\w+)\((.*)\)", told).groups()
        with self.assertRaises(ValueError) as caught:
            eval(source, names)
        self.assertEqual(type(caught.exception).__name__, name)
        self.assertEqual(repr(vars(caught.exception)), repr(eval(f"dict({fields})", {})))


if __name__ == "__main__":
    unittest.main()
