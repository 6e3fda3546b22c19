"""The rules of LANGUAGE.md that can be read off the files one by one."""

import ast
import pathlib
import unittest

PACKAGE = pathlib.Path(__file__).resolve().parent.parent / "trackedreads"
FILES = sorted(path for path in PACKAGE.rglob("*.py"))
BUILTINS = (
    "len range enumerate zip min max sum abs sorted reversed int str bool list tuple dict set "
    "isinstance ord repr any all divmod getattr hasattr setattr iter next map property "
    "staticmethod classmethod super Exception ValueError TypeError KeyError IndexError "
    "LookupError ZeroDivisionError ArithmeticError OverflowError RuntimeError "
    "NotImplementedError AttributeError StopIteration NotImplemented frozenset pow"
).split()
METHODS = (
    "append clear copy count endswith extend find get index insert isalnum isalpha isdigit "
    "islower isspace isupper items join keys ljust lower lstrip partition pop remove replace "
    "reverse rfind rjust rpartition rsplit rstrip setdefault split splitlines startswith strip "
    "update upper values zfill bit_length isascii sort add discard"
).split()
SPECIAL = (
    "init eq repr str len enter exit call iter lt le gt ge ne add sub mul floordiv mod pow and or "
    "xor lshift rshift radd rsub rmul iadd isub imul neg pos invert abs bool contains getitem "
    "setitem"
).split()
STATEMENTS = (
    ast.FunctionDef, ast.ClassDef, ast.Return, ast.Assign, ast.AugAssign, ast.For, ast.While,
    ast.If, ast.With, ast.Match, ast.Raise, ast.Try, ast.Assert, ast.ImportFrom, ast.Expr,
    ast.Pass, ast.Break, ast.Continue, ast.Delete, ast.Nonlocal,
)
BARRED = ("register mro elements open input law version_info with_traceback add_note eval exec "
          "compile globals locals vars dir id hash quit help print format").split()

ERRORS = ("BadArguments", "BadRow", "NoName", "NotWaiting", "Ring")


def trees():
    for path in FILES:
        yield path, ast.parse(path.read_text(encoding="utf-8"))


def nodes(*kinds):
    for path, tree in trees():
        for node in ast.walk(tree):
            if isinstance(node, kinds):
                yield path.name, node


class Files(unittest.TestCase):
    def test_plain_files_of_bounded_size(self):
        self.assertTrue(FILES)
        for path in PACKAGE.rglob("*"):
            if "__pycache__" not in path.parts and path.is_file():
                self.assertEqual(path.suffix, ".py")
        for path in FILES:
            text = path.read_text(encoding="utf-8")
            lines = text.split("\n")
            self.assertLessEqual(len(lines), 399, path.name)
            self.assertLessEqual(max(map(len, lines)), 120, path.name)
            self.assertEqual([c for c in text if c != "\n" and not " " <= c <= "~"], [])

    def test_functions_have_at_most_forty_lines(self):
        for name, node in nodes(ast.FunctionDef):
            self.assertLessEqual(node.end_lineno - node.lineno + 1, 40, (name, node.name))

    def test_imports_of_the_package_alone_and_of_what_the_file_defines(self):
        defined = {}
        for path, tree in trees():
            defined["trackedreads." + path.stem] = [
                node.name for node in tree.body if isinstance(node, (ast.FunctionDef, ast.ClassDef))
            ] + [target.id for node in tree.body if isinstance(node, ast.Assign)
                 for target in node.targets]
        for name, node in nodes(ast.ImportFrom):
            self.assertEqual(node.level, 0)
            if node.module in ("heapq", "math", "itertools", "collections"):
                continue
            self.assertIn(node.module, defined, name)
            for alias in node.names:
                self.assertIn(alias.name, defined[node.module], name)
        self.assertEqual(list(nodes(ast.Import)), [])

    def test_no_two_files_need_each_other(self):
        needs = {path.stem: [node.module.split(".")[-1] for node in tree.body
                             if isinstance(node, ast.ImportFrom)] for path, tree in trees()}
        done = []
        while len(done) < len(needs):
            ready = [stem for stem in needs if stem not in done
                     and all(other in done or other not in needs for other in needs[stem])]
            self.assertTrue(ready, "files import from each other")
            done += ready


class Statements(unittest.TestCase):
    def test_only_those_that_are_allowed(self):
        for name, node in nodes(ast.stmt):
            self.assertIsInstance(node, STATEMENTS, (name, node.lineno))
        self.assertEqual(list(nodes(ast.Await, ast.AsyncFor, ast.Global, ast.AnnAssign)), [])

    def test_module_level_holds_definitions_and_plain_values(self):
        for path, tree in trees():
            names = []
            for node in tree.body:
                if isinstance(node, ast.Assign):
                    ast.literal_eval(node.value)
                    self.assertEqual(len(node.targets), 1)
                    names.append(node.targets[0].id)
                elif isinstance(node, (ast.FunctionDef, ast.ClassDef)):
                    names.append(node.name)
                elif isinstance(node, ast.ImportFrom):
                    names += [alias.asname or alias.name for alias in node.names]
                else:
                    self.assertIsInstance(node.value, ast.Constant, path.name)
            self.assertEqual(len(names), len(set(names)), path.name)

    def test_decorators(self):
        for name, node in nodes(ast.FunctionDef, ast.ClassDef):
            for sign in node.decorator_list:
                word = sign.id if isinstance(sign, ast.Name) else sign.attr
                self.assertIn(word, ("classmethod", "staticmethod", "property", "setter"), name)

    def test_no_floats_no_division_no_percent(self):
        for name, node in nodes(ast.Constant):
            self.assertNotIsInstance(node.value, (float, complex))
            if isinstance(node.value, str):
                self.assertNotIn(chr(37), node.value, name)
        self.assertEqual(list(nodes(ast.Div)), [])

    def test_is_stands_beside_none_true_and_false(self):
        for name, node in nodes(ast.Compare):
            for sign, side in zip(node.ops, node.comparators):
                if isinstance(sign, (ast.Is, ast.IsNot)):
                    self.assertIsInstance(side, ast.Constant, (name, node.lineno))

    def test_no_generator_expressions(self):
        # Where a class has an __eq__, any, all, sum and the like take lists.
        self.assertEqual(list(nodes(ast.GeneratorExp)), [])

    def test_sets_are_only_measured_sorted_and_asked(self):
        for path, tree in trees():
            held = [node for node in ast.walk(tree) if isinstance(node, (ast.Set, ast.SetComp))
                    or isinstance(node, ast.Call) and getattr(node.func, "id", None) == "set"]
            places = []
            for node in ast.walk(tree):
                if isinstance(node, ast.Call) and getattr(node.func, "id", None) in ("len", "sorted"):
                    places += node.args
                if isinstance(node, ast.Assign) and isinstance(node.targets[0], ast.Name):
                    places.append(node.value)
            for node in held:
                self.assertIn(node, places, (path.name, node.lineno))

    def test_classes_with_items_say_whether_they_are_iterated_over(self):
        for _, node in nodes(ast.ClassDef):
            methods = [row.name for row in node.body if isinstance(row, ast.FunctionDef)]
            if "__getitem__" in methods:
                self.assertIn("__iter__", methods)

    def test_no_error_of_pythons_own_is_caught(self):
        for name, node in nodes(ast.ExceptHandler):
            caught = node.type.elts if isinstance(node.type, ast.Tuple) else [node.type]
            for error in caught:
                self.assertIn(error.id, ERRORS, (name, node.lineno))

    def test_what_stands_in_a_finally(self):
        blocks = [row for _, node in nodes(ast.Try) for row in node.finalbody]
        self.assertTrue(blocks)
        for row in blocks:
            self.assertIsInstance(row, ast.Assign)
            self.assertEqual(len(row.targets), 1)
            for side in (row.targets[0], row.value):
                self.assertIsInstance(side, (ast.Name, ast.Attribute))

    def test_methods_are_called_where_they_stand(self):
        own = [row.name for _, node in nodes(ast.ClassDef) for row in node.body
               if isinstance(row, ast.FunctionDef) and not row.decorator_list]
        stored = [node.attr for _, node in nodes(ast.Attribute) if isinstance(node.ctx, ast.Store)]
        places = [(name, node.func.lineno, node.func.col_offset) for name, node in nodes(ast.Call)]
        for name, node in nodes(ast.Attribute):
            if node.attr in own and node.attr not in stored:
                place = (name, node.lineno, node.col_offset)
                self.assertTrue(place in places, place)

    def test_what_properties_and_operators_need_adds_nothing_in_place(self):
        # A class has an __iadd__.
        for name, node in nodes(ast.FunctionDef):
            is_special = node.name.startswith("__") and node.name not in ("__init__", "__call__")
            if is_special or node.decorator_list:
                self.assertEqual([row for row in ast.walk(node) if isinstance(row, ast.AugAssign)], [])

    def test_errors_are_raised_by_name(self):
        for name, node in nodes(ast.Raise):
            if node.exc is not None:
                self.assertIsInstance(node.exc, ast.Call, name)
                self.assertIsInstance(node.exc.func, ast.Name, name)


class Names(unittest.TestCase):
    def test_builtins(self):
        import builtins
        for name, node in nodes(ast.Name):
            if hasattr(builtins, node.id):
                self.assertIn(node.id, BUILTINS, (name, node.lineno))
                self.assertIsInstance(node.ctx, ast.Load, (name, node.lineno))

    def test_methods_are_own_ones_or_listed(self):
        own = [node.name for _, node in nodes(ast.FunctionDef)]
        for name, node in nodes(ast.Call):
            if isinstance(node.func, ast.Attribute):
                self.assertIn(node.func.attr, own + METHODS, (name, node.lineno))

    def test_attributes_are_assigned_somewhere(self):
        known = [node.name for _, node in nodes(ast.FunctionDef)] + METHODS + ["setter"]
        known += [node.attr for _, node in nodes(ast.Attribute)
                  if isinstance(node.ctx, ast.Store)]
        known += [target.id for _, node in nodes(ast.ClassDef) for row in node.body
                  if isinstance(row, ast.Assign) for target in row.targets]
        for name, node in nodes(ast.Attribute):
            self.assertIn(node.attr, known, (name, node.lineno))

    def test_no_barred_name(self):
        for name, node in nodes(ast.Name, ast.Attribute, ast.FunctionDef, ast.arg, ast.keyword):
            word = (getattr(node, "id", None) or getattr(node, "attr", None)
                    or getattr(node, "name", None) or getattr(node, "arg", None))
            self.assertNotIn(word, BARRED, name)

    def test_names_inside_functions_are_no_classes_or_imports_of_the_file(self):
        for path, tree in trees():
            taken = [node.name for node in tree.body if isinstance(node, ast.ClassDef)]
            taken += [alias.name for node in tree.body if isinstance(node, ast.ImportFrom)
                      for alias in node.names]
            for node in ast.walk(tree):
                word = getattr(node, "arg", None) if isinstance(node, ast.arg) else None
                if isinstance(node, ast.Name) and isinstance(node.ctx, ast.Store):
                    word = node.id
                self.assertNotIn(word, taken, path.name)

    def test_properties_and_generators_share_their_names_with_nothing(self):
        decorated = [node.name for _, node in nodes(ast.FunctionDef)
                     if "property" in [getattr(sign, "id", None) for sign in node.decorator_list]]
        yielding = [node.name for _, node in nodes(ast.FunctionDef)
                    if any(isinstance(row, (ast.Yield, ast.YieldFrom)) for row in ast.walk(node))]
        self.assertIn("present", decorated)
        self.assertIn("reports", yielding)
        for name, node in nodes(ast.Attribute):
            if isinstance(node.ctx, ast.Store):
                self.assertNotIn(node.attr, decorated + yielding, name)
        with_setter = [sign.value.id for _, node in nodes(ast.FunctionDef)
                       for sign in node.decorator_list if isinstance(sign, ast.Attribute)]
        self.assertEqual(with_setter, ["value"])
        for word in decorated + yielding:
            many = 1 + with_setter.count(word)
            self.assertEqual([node.name for _, node in nodes(ast.FunctionDef)].count(word), many)

    def test_captured_names_mean_nothing_else_in_their_function(self):
        for name, node in nodes(ast.FunctionDef):
            captured = [part.name for part in ast.walk(node)
                        if isinstance(part, (ast.MatchAs, ast.MatchStar)) and part.name]
            others = [part.id for part in ast.walk(node)
                      if isinstance(part, ast.Name) and isinstance(part.ctx, ast.Store)]
            others += [part.arg for part in ast.walk(node) if isinstance(part, ast.arg)]
            inner = [part.id for row in ast.walk(node)
                     if isinstance(row, ast.Lambda) or isinstance(row, ast.FunctionDef) and row is not node
                     for part in ast.walk(row) if isinstance(part, ast.Name)]
            for word in captured:
                self.assertNotIn(word, others + inner, (name, node.name))

    def test_double_underscores(self):
        for name, node in nodes(ast.FunctionDef):
            if node.name.startswith("__"):
                self.assertIn(node.name.strip("_"), SPECIAL, name)
        for name, node in nodes(ast.Name, ast.arg):
            word = getattr(node, "id", None) or node.arg
            self.assertFalse(word.startswith("__"), name)


if __name__ == "__main__":
    unittest.main()
