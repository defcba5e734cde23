"""The rules of the language subset that a look at the files can tell."""

import ast
import builtins
import pathlib
import re
import unittest

FOLDER = pathlib.Path(__file__).resolve().parent.parent / "numberedlines"
PACKAGE = FOLDER.name
FILES = sorted(FOLDER.glob("*.py"))

BUILTINS = set(
    "len range enumerate zip min max sum abs sorted reversed int str bool bytes list tuple dict set frozenset "
    "isinstance ord repr any all divmod Exception ValueError TypeError KeyError IndexError LookupError "
    "ZeroDivisionError ArithmeticError OverflowError RuntimeError NotImplementedError AttributeError "
    "StopIteration NotImplemented".split())
METHODS = set(
    "append clear copy count endswith extend find get index insert isalnum isalpha isdigit islower isspace isupper "
    "items join keys ljust lower lstrip partition pop remove replace reverse rfind rjust rpartition rsplit rstrip "
    "setdefault split splitlines startswith strip update upper values zfill bit_length".split())
BARRED_WORDS = re.compile(
    r"\b(type|typing|typing_extensions|enum|Enum|IntEnum|StrEnum|Flag|IntFlag|Generic|Protocol|ABC|ABCMeta|namedtuple"
    r"|NamedTuple|TypedDict|TYPE_CHECKING|abstractmethod)\b|dataclass|overload|contextmanager")
BARRED_NAMES = set(
    "register mro elements open input version_info with_traceback add_note attrgetter breakpoint builtins compile "
    "copyright credits delattr dir eval exec exit gc getattr globals hasattr help id importlib license locals "
    "methodcaller os quit setattr super type vars sys".split()) | set(dir(builtins))


def trees():
    return [(file, ast.parse(file.read_text())) for file in FILES]


def nodes(kind):
    return [(file.name, node) for file, tree in trees() for node in ast.walk(tree) if isinstance(node, kind)]


class Files(unittest.TestCase):
    def test_the_folder_holds_python_files_only(self):
        others = [path.name for path in FOLDER.iterdir() if path.suffix != ".py" and path.name != "__pycache__"]
        self.assertEqual(others, [])
        self.assertIn("__init__.py", [file.name for file in FILES])

    def test_sizes_and_signs(self):
        for file in FILES:
            lines = file.read_text().split("\n")
            self.assertLessEqual(len(lines), 400, file.name)
            for line in lines:
                self.assertLessEqual(len(line), 120, (file.name, line))
                self.assertTrue(all(" " <= sign <= "~" for sign in line), (file.name, line))
                self.assertIsNone(BARRED_WORDS.search(line), (file.name, line))

    def test_functions_are_of_at_most_forty_lines(self):
        for name, node in nodes(ast.FunctionDef):
            self.assertLessEqual(node.end_lineno - node.lineno + 1, 40, (name, node.name))
            self.assertEqual(node.decorator_list, [], (name, node.name))


class Names(unittest.TestCase):
    def test_imports_are_from_the_package_at_the_top(self):
        self.assertEqual(nodes(ast.Import), [])
        for name, node in nodes(ast.ImportFrom):
            self.assertEqual((node.level, node.col_offset), (0, 0), name)
            self.assertTrue(node.module.startswith(PACKAGE + "."), (name, node.module))

    def test_an_import_names_the_file_that_defines_it(self):
        defined = {}
        for file, tree in trees():
            defined[PACKAGE + "." + file.stem] = {
                name for node in tree.body
                for name in ([node.name] if isinstance(node, (ast.FunctionDef, ast.ClassDef)) else
                             [target.id for target in node.targets] if isinstance(node, ast.Assign) else [])}
        for name, node in nodes(ast.ImportFrom):
            for alias in node.names:
                self.assertIn(alias.name, defined[node.module], name)

    def test_names_are_plain_and_none_is_a_barred_one(self):
        bound = [(file, node.id) for file, node in nodes(ast.Name) if isinstance(node.ctx, ast.Store)]
        bound += [(file, node.arg) for file, node in nodes(ast.arg)]
        bound += [(file, node.name) for file, node in nodes((ast.FunctionDef, ast.ClassDef))
                  if node.name not in ("__init__", "__eq__", "__repr__", "__str__", "__len__")]
        for file, name in bound:
            self.assertFalse(name.startswith("_"), (file, name))
            self.assertNotIn(name, BARRED_NAMES, file)

    def test_no_parameter_or_variable_has_the_name_of_an_import_or_a_class_of_its_file(self):
        for file, tree in trees():
            taken = {alias.name for node in ast.walk(tree) if isinstance(node, ast.ImportFrom) for alias in node.names}
            taken |= {node.name for node in ast.walk(tree) if isinstance(node, ast.ClassDef)}
            bound = {node.id for node in ast.walk(tree) if isinstance(node, ast.Name) and isinstance(node.ctx, ast.Store)}
            bound |= {node.arg for node in ast.walk(tree) if isinstance(node, ast.arg)}
            bound |= {node.name for node in tree.body if isinstance(node, ast.FunctionDef)}
            self.assertEqual(taken & bound, set(), file.name)

    def test_a_name_is_bound_once_at_the_top_of_a_file(self):
        for file, tree in trees():
            bound = [node.name for node in tree.body if isinstance(node, (ast.FunctionDef, ast.ClassDef))]
            bound += [target.id for node in tree.body if isinstance(node, ast.Assign) for target in node.targets]
            self.assertEqual(len(bound), len(set(bound)), file.name)

    def test_no_name_is_both_a_method_and_an_attribute(self):
        methods = {method.name for _, node in nodes(ast.ClassDef) for method in node.body if isinstance(method, ast.FunctionDef)}
        attributes = {node.attr for _, node in nodes(ast.Attribute) if isinstance(node.ctx, ast.Store)}
        self.assertEqual(methods & attributes, set())

    def test_no_two_files_import_from_each_other(self):
        needs = {file.stem: {node.module.split(".")[1] for node in ast.walk(tree) if isinstance(node, ast.ImportFrom)}
                 for file, tree in trees()}
        while needs:
            free = [name for name in needs if not needs[name] & set(needs)]
            self.assertNotEqual(free, [], needs)
            needs = {name: needs[name] for name in needs if name not in free}

    def test_only_known_builtins_and_methods_are_used(self):
        known = set(BUILTINS)
        for kind, field in ((ast.FunctionDef, "name"), (ast.ClassDef, "name"), (ast.arg, "arg"), (ast.alias, "name")):
            known |= {getattr(node, field) for _, node in nodes(kind)}
        known |= {node.id for _, node in nodes(ast.Name) if isinstance(node.ctx, ast.Store)}
        attributes = {node.attr for _, node in nodes(ast.Attribute) if isinstance(node.ctx, ast.Store)}
        own = attributes | {node.name for _, node in nodes(ast.FunctionDef)}
        for file, node in nodes(ast.Name):
            self.assertIn(node.id, known, file)
        for file, node in nodes(ast.Attribute):
            self.assertIn(node.attr, METHODS | own, file)


class Expressions(unittest.TestCase):
    def test_is_stands_with_none_and_truths_only(self):
        for file, node in nodes(ast.Compare):
            for operator, right in zip(node.ops, node.comparators):
                if isinstance(operator, (ast.Is, ast.IsNot)):
                    self.assertIsInstance(right, ast.Constant, (file, node.lineno))

    def test_what_is_left_out(self):
        left_out = (ast.Div, ast.Global, ast.AsyncFunctionDef, ast.Await, ast.GeneratorExp, ast.Lambda, ast.MatMult)
        self.assertEqual([(file, node) for file, node in nodes(left_out)], [])

    def test_only_own_errors_are_caught_and_raised(self):
        own = {node.name for file, node in nodes(ast.ClassDef) if file == "errors.py"}
        for file, node in nodes(ast.ExceptHandler):
            self.assertIn(node.type.id, own, (file, node.lineno))
        for file, node in nodes(ast.Raise):
            self.assertIn(node.exc.func.id, own, (file, node.lineno))

    def test_constants(self):
        for file, node in nodes(ast.Constant):
            self.assertNotIsInstance(node.value, (float, complex), (file, node.lineno))
            if isinstance(node.value, str):
                self.assertNotIn("%", node.value, (file, node.lineno))


if __name__ == "__main__":
    unittest.main()
