"""The examples of README.md: what their comments say is what they give."""

import ast
import pathlib
import re
import unittest

README = pathlib.Path(__file__).resolve().parent.parent / "README.md"


class Examples(unittest.TestCase):
    def test_all_of_them_one_behind_the_other(self):
        text = "\n".join(re.findall(r"```python\n(.*?)```", README.read_text(encoding="ascii"), re.S))
        lines = text.split("\n")
        names = {}
        many = 0
        for node in ast.parse(text).body:
            if not isinstance(node, ast.Expr):
                exec(compile(ast.Module([node], []), "README.md", "exec"), names)
                continue
            value = eval(ast.get_source_segment(text, node), names)
            told = self.told_by(lines[node.end_lineno - 1])
            if told is not None:
                many += 1
                self.assertEqual(value, told, lines[node.lineno - 1])
        self.assertGreater(many, 20)

    def told_by(self, line):
        """The value with which the comment begins; None if it begins with none."""
        _, _, said = line.partition("# ")
        for end in range(len(said), 0, -1):
            try:
                # A comma behind a value is one of the sentence.
                return ast.literal_eval(said[:end].strip().rstrip(","))
            except (SyntaxError, ValueError):
                continue
        return None


if __name__ == "__main__":
    unittest.main()
