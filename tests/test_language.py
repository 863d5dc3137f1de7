"""The package keeps to its small part of Python, as far as that shows in the files alone."""

import ast
import builtins
import io
import pathlib
import re
import tokenize
import unittest

PACKAGE = "disposehall"
FOLDER = pathlib.Path(__file__).resolve().parent.parent / PACKAGE

STATEMENTS = (
    ast.FunctionDef, ast.ClassDef, ast.ImportFrom, ast.Assign, ast.AugAssign, ast.If, ast.While, ast.For, ast.Return,
    ast.Break, ast.Continue, ast.Pass, ast.Raise, ast.Try, ast.Expr,
)
EXPRESSIONS = (
    ast.BoolOp, ast.BinOp, ast.UnaryOp, ast.Lambda, ast.IfExp, ast.Dict, ast.Set, ast.ListComp, ast.Compare, ast.Call,
    ast.JoinedStr, ast.FormattedValue, ast.Constant, ast.Attribute, ast.Subscript, ast.Name, ast.List, ast.Tuple,
    ast.Slice,
)
OWN_NAMES = set(
    "len range enumerate zip min max sum abs sorted reversed int str bool list tuple dict set frozenset isinstance ord "
    "repr any all divmod Exception ValueError TypeError KeyError IndexError LookupError ZeroDivisionError "
    "ArithmeticError OverflowError RuntimeError NotImplementedError AttributeError StopIteration".split()
)
OWN_METHODS = set(
    "append clear copy count endswith extend find get index insert isalnum isalpha isdigit islower isspace isupper "
    "items join keys ljust lower lstrip partition pop remove replace reverse rfind rjust rpartition rsplit rstrip "
    "setdefault split splitlines startswith strip update upper values zfill bit_length".split()
)
DUNDER_METHODS = {"__init__", "__eq__", "__repr__", "__str__", "__len__"}
UNUSED_NAMES = set("register mro elements open input version_info with_traceback add_note format format_map".split())
UNUSED_WORDS = set(
    "type typing typing_extensions enum Enum IntEnum StrEnum Flag IntFlag Generic Protocol ABC ABCMeta namedtuple "
    "NamedTuple TypedDict TYPE_CHECKING abstractmethod".split()
)
UNUSED_PARTS = ["dataclass", "overload", "contextmanager"]


def texts():
    return {path.stem: path.read_text(encoding="utf-8") for path in sorted(FOLDER.glob("*.py"))}


def trees():
    return {stem: ast.parse(text) for stem, text in texts().items()}


def bound_at_top(tree):
    names = []
    for node in tree.body:
        if isinstance(node, (ast.FunctionDef, ast.ClassDef)):
            names.append(node.name)
        elif isinstance(node, ast.Assign):
            names.extend(target.id for target in node.targets)
        elif isinstance(node, ast.ImportFrom):
            names.extend(alias.asname or alias.name for alias in node.names)
    return names


def is_docstring(node):
    return isinstance(node, ast.Expr) and isinstance(node.value, ast.Constant) and isinstance(node.value.value, str)


def called(node):
    return node.func.attr if isinstance(node.func, ast.Attribute) else getattr(node.func, "id", None)


def is_plain(node):
    if isinstance(node, ast.Constant):
        return node.value is None or isinstance(node.value, (bool, int, str))
    if isinstance(node, (ast.List, ast.Tuple)):
        return all(is_plain(one) for one in node.elts)
    if isinstance(node, ast.Dict):
        return all(is_plain(one) for one in node.keys + node.values)
    return False


class FilesTest(unittest.TestCase):
    def test_only_python_files_lie_in_the_package(self):
        for path in FOLDER.iterdir():
            if path.name != "__pycache__":
                self.assertRegex(path.name, r"\A[a-z0-9_]+\.py\Z")
        self.assertTrue((FOLDER / "__init__.py").is_file())

    def test_signs_and_sizes(self):
        for stem, text in texts().items():
            with self.subTest(file=stem):
                self.assertEqual([sign for sign in text if not (" " <= sign <= "~" or sign == "\n")], [])
                rows = text.splitlines()
                self.assertLessEqual(len(rows), 400)
                self.assertLessEqual(max([len(row) for row in rows]), 120)

    def test_words_that_are_not_used(self):
        for stem, text in texts().items():
            with self.subTest(file=stem):
                self.assertEqual(set(re.findall(r"\w+", text)) & UNUSED_WORDS, set())
                self.assertEqual([part for part in UNUSED_PARTS if part in text], [])

    def test_texts_have_no_percent_sign_and_few_escapes(self):
        for stem, text in texts().items():
            for token in tokenize.generate_tokens(io.StringIO(text).readline):
                if tokenize.tok_name[token.type] in ("STRING", "FSTRING_MIDDLE"):
                    with self.subTest(file=stem, row=token.start[0]):
                        self.assertNotIn("%", token.string)
                        self.assertIsNone(re.search(r"\\[^nt\\'\"]", token.string))


class TopTest(unittest.TestCase):
    def test_what_stands_at_the_top(self):
        for stem, tree in trees().items():
            for place, node in enumerate(tree.body):
                with self.subTest(file=stem, row=node.lineno):
                    if isinstance(node, ast.Assign):
                        self.assertTrue(is_plain(node.value))
                    elif isinstance(node, ast.Expr):
                        self.assertTrue(place == 0 and is_docstring(node))
                    else:
                        self.assertIsInstance(node, (ast.ImportFrom, ast.FunctionDef, ast.ClassDef))

    def test_each_name_is_bound_once(self):
        for stem, tree in trees().items():
            names = bound_at_top(tree)
            with self.subTest(file=stem):
                self.assertEqual(len(names), len(set(names)))
                self.assertEqual(set(names) & set(dir(builtins)), set())

    def test_imports_are_of_the_very_file_that_defines_the_name(self):
        found = trees()
        for stem, tree in found.items():
            for node in ast.walk(tree):
                if isinstance(node, ast.ImportFrom):
                    with self.subTest(file=stem, row=node.lineno):
                        self.assertIn(node, tree.body)
                        self.assertEqual(node.level, 0)
                        package, dot, module = node.module.partition(".")
                        self.assertEqual(package, PACKAGE)
                        defined = [
                            name for one in found[module].body if not isinstance(one, ast.ImportFrom)
                            for name in bound_at_top(ast.Module([one], []))
                        ]
                        self.assertEqual([alias.name for alias in node.names if alias.name not in defined], [])

    def test_no_two_files_draw_from_one_another(self):
        drawn = {
            stem: {node.module.partition(".")[2] for node in tree.body if isinstance(node, ast.ImportFrom)}
            for stem, tree in trees().items()
        }
        while drawn:
            free = [stem for stem in drawn if not drawn[stem] & set(drawn)]
            self.assertNotEqual(free, [], f"drawn in a round: {sorted(drawn)}")
            drawn = {stem: others for stem, others in drawn.items() if stem not in free}


class CodeTest(unittest.TestCase):
    def each(self, kinds, check):
        for stem, tree in trees().items():
            for node in ast.walk(tree):
                if isinstance(node, kinds):
                    with self.subTest(file=stem, row=getattr(node, "lineno", None)):
                        check(tree, node)

    def test_statements(self):
        def check(tree, node):
            self.assertIsInstance(node, STATEMENTS)
            if isinstance(node, (ast.For, ast.While)):
                self.assertEqual(node.orelse, [])
            if isinstance(node, ast.Try):
                self.assertEqual(node.finalbody, [])
            if isinstance(node, ast.Assign):
                self.assertEqual(len(node.targets), 1)
            if isinstance(node, ast.Expr) and node not in tree.body:
                self.assertIsInstance(node.value, ast.Call)
            if isinstance(node, ast.Raise):
                self.assertIsInstance(node.exc, ast.Call)
        self.each(ast.stmt, check)

    def test_expressions(self):
        def check(tree, node):
            self.assertIsInstance(node, EXPRESSIONS)
            if isinstance(node, ast.Constant):
                self.assertTrue(is_plain(node))
            if isinstance(node, ast.BinOp):
                self.assertNotIsInstance(node.op, (ast.Div, ast.MatMult))
            if isinstance(node, ast.FormattedValue):
                self.assertIsInstance(node.value, ast.Name)
                self.assertIsNone(node.format_spec)
            if isinstance(node, ast.ListComp):
                self.assertEqual(len(node.generators), 1)
                self.assertLessEqual(len(node.generators[0].ifs), 1)
        self.each(ast.expr, check)

    def test_is_stands_beside_none_true_and_false(self):
        def check(tree, node):
            for op, other in zip(node.ops, node.comparators):
                if isinstance(op, (ast.Is, ast.IsNot)):
                    self.assertIsInstance(other, ast.Constant)
                    self.assertTrue(other.value is None or isinstance(other.value, bool))
        self.each(ast.Compare, check)

    def test_functions(self):
        def check(tree, node):
            self.assertEqual(node.decorator_list, [])
            self.assertLessEqual(node.end_lineno - node.lineno + 1, 40)
            names = node.args
            self.assertEqual((names.vararg, names.kwarg, names.kwonlyargs, names.posonlyargs), (None, None, [], []))
            self.assertTrue(all(is_plain(value) for value in names.defaults))
        self.each(ast.FunctionDef, check)

    def test_classes(self):
        def check(tree, node):
            self.assertIn(node, tree.body)
            self.assertEqual((node.decorator_list, node.keywords), ([], []))
            self.assertLessEqual(len(node.bases), 1)
            self.assertEqual([one for one in node.body if not isinstance(one, (ast.FunctionDef, ast.Pass))], [])
            methods = [one.name for one in node.body if isinstance(one, ast.FunctionDef)]
            self.assertEqual(len(methods), len(set(methods)))
        self.each(ast.ClassDef, check)

    def test_names_have_plain_forms(self):
        def check(tree, node):
            key = {ast.Name: "id", ast.arg: "arg", ast.Attribute: "attr"}.get(type(node), "name")
            name = getattr(node, key)
            self.assertTrue(not name.startswith("_") or name in DUNDER_METHODS, name)
            self.assertNotIn(name, UNUSED_NAMES)
        self.each((ast.Name, ast.arg, ast.FunctionDef, ast.ClassDef, ast.Attribute), check)

    def test_names_of_pythons_own(self):
        def check(tree, node):
            self.assertTrue(node.id in OWN_NAMES or node.id not in dir(builtins), node.id)
        self.each(ast.Name, check)

    def test_locals_are_not_called_like_something_else(self):
        def check(tree, node):
            if isinstance(node, ast.arg) or isinstance(node.ctx, ast.Store):
                name = node.arg if isinstance(node, ast.arg) else node.id
                self.assertNotIn(name, dir(builtins))
                for one in tree.body:
                    if isinstance(one, (ast.ClassDef, ast.ImportFrom)):
                        self.assertNotIn(name, bound_at_top(ast.Module([one], [])))
        self.each((ast.Name, ast.arg), check)

    def test_methods_are_known_and_none_is_a_value_too(self):
        nodes = [node for tree in trees().values() for node in ast.walk(tree)]
        methods = {
            one.name for node in nodes if isinstance(node, ast.ClassDef)
            for one in node.body if isinstance(one, ast.FunctionDef)
        }
        values = {node.attr for node in nodes if isinstance(node, ast.Attribute) and isinstance(node.ctx, ast.Store)}
        self.assertEqual(methods & values, set())
        def check(tree, node):
            if isinstance(node.func, ast.Attribute):
                self.assertIn(node.func.attr, OWN_METHODS | methods)
        self.each(ast.Call, check)

    def test_own_methods_and_values_are_not_called_like_those_of_pythons_own(self):
        known = {name for kind in (str, int, list, tuple, dict, set, bytes, Exception) for name in dir(kind)}
        free_values = set("count index title find get join lower upper split strip copy add".split())
        def check(tree, node):
            if isinstance(node, ast.ClassDef):
                names = {one.name for one in node.body if isinstance(one, ast.FunctionDef)}
                self.assertEqual(names & known - OWN_METHODS - DUNDER_METHODS - {"add", "discard"}, set())
            elif isinstance(node.ctx, ast.Store):
                self.assertIsInstance(node.value, ast.Name)
                self.assertNotIn(node.value.id, bound_at_top(tree))
                self.assertNotIn(node.attr, (known | {"sort", "args", "encode", "format"}) - free_values)
        self.each((ast.ClassDef, ast.Attribute), check)

    def test_methods_with_two_underscores_give_back_nothing(self):
        """Narrower than it need be: of these methods the program has `__init__` alone."""
        def check(tree, node):
            if node.name.startswith("__"):
                self.assertEqual(node.name, "__init__")
                self.assertEqual([one for one in ast.walk(node) if isinstance(one, ast.Return)], [])
        self.each(ast.FunctionDef, check)

    def test_what_is_walked_is_walked_on_the_spot(self):
        walked = {"zip", "enumerate", "reversed", "range", "items", "keys", "values"}
        walkers = {"list", "tuple", "dict", "sorted", "sum", "any", "all", "enumerate", "zip"}
        for stem, tree in trees().items():
            allowed = []
            for node in ast.walk(tree):
                if isinstance(node, (ast.For, ast.comprehension)):
                    allowed.append(node.iter)
                elif isinstance(node, ast.Call):
                    name = called(node)
                    if name == "zip":
                        allowed.extend(node.args)
                    elif name in walkers or (name in ("min", "max") and len(node.args) == 1):
                        allowed.extend(node.args[:1])
            for node in ast.walk(tree):
                if isinstance(node, ast.Call) and called(node) in walked:
                    with self.subTest(file=stem, row=node.lineno):
                        self.assertIn(node, allowed)

    def test_what_a_loop_walks_is_not_changed_in_it(self):
        changes = {"append", "clear", "extend", "insert", "pop", "remove", "reverse", "setdefault", "update"}
        def check(tree, loop):
            walked = {node.id for node in ast.walk(loop.iter) if isinstance(node, ast.Name)}
            if isinstance(loop.iter, ast.Call) and called(loop.iter) in ("list", "sorted"):
                return
            for node in [inner for one in loop.body for inner in ast.walk(one)]:
                if isinstance(node, ast.Call) and isinstance(node.func, ast.Attribute) and node.func.attr in changes:
                    self.assertNotIn(getattr(node.func.value, "id", None), walked)
                if isinstance(node, ast.Subscript) and isinstance(node.ctx, ast.Store):
                    self.assertNotIn(getattr(node.value, "id", None), walked)
        self.each(ast.For, check)

    def test_keywords_of_pythons_own(self):
        known = {"sorted": {"key", "reverse"}, "min": {"key", "default"}, "max": {"key", "default"}, "sum": {"start"},
                 "enumerate": {"start"}, "zip": {"strict"}}
        def check(tree, node):
            if called(node) in OWN_NAMES | OWN_METHODS:
                self.assertLessEqual({keyword.arg for keyword in node.keywords}, known.get(called(node), set()))
        self.each(ast.Call, check)

    def test_sets_are_not_kept(self):
        """Narrower than it need be: the program does without sets."""
        def check(tree, node):
            self.assertNotIsInstance(node, ast.Set)
            if isinstance(node, ast.Name):
                self.assertNotIn(node.id, ("set", "frozenset"))
        self.each(ast.expr, check)

    def test_pythons_own_functions_are_called_where_they_stand(self):
        def check(tree, node):
            names = [one.func for one in ast.walk(node) if isinstance(one, ast.Call)]
            names += [word.value for one in ast.walk(node) if isinstance(one, ast.Call) for word in one.keywords]
            names += [one.args[1] for one in ast.walk(node) if isinstance(one, ast.Call) and called(one) == "isinstance"]
            for one in ast.walk(node):
                if isinstance(one, ast.Name) and one.id in OWN_NAMES and one.id[0].islower():
                    self.assertIn(one, names)
        self.each(ast.FunctionDef, check)

    def test_lists_and_dicts_of_the_top_are_only_read(self):
        for stem, tree in trees().items():
            tops = [node.targets[0].id for node in tree.body if isinstance(node, ast.Assign)
                    and isinstance(node.value, (ast.List, ast.Dict))]
            with self.subTest(file=stem):
                self.assertEqual(tops, [], "narrower than it need be: the program keeps no list or dict at a top")

    def test_errors_are_taken_by_name(self):
        def check(tree, node):
            self.assertIsNotNone(node.type)
            for one in ast.walk(node.type):
                if isinstance(one, ast.Name):
                    self.assertNotIn(one.id, ("Exception", "TypeError"))
        self.each(ast.ExceptHandler, check)


if __name__ == "__main__":
    unittest.main()
