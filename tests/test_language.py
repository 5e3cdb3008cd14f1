"""The rules of LANGUAGE.md that a script can see in the files of the package."""

import ast
import builtins
import os
import re
import unittest

from walks import rows_that_change

ROOT = os.path.dirname(os.path.dirname(os.path.abspath(__file__)))
PACKAGE = os.path.join(ROOT, "maskededits")
ALLOWED_BUILTINS = set(
    "len range enumerate zip min max sum abs sorted reversed int str bool bytes list tuple dict set frozenset "
    "isinstance ord repr any all divmod iter next Exception ValueError TypeError KeyError IndexError LookupError "
    "ZeroDivisionError ArithmeticError OverflowError RuntimeError NotImplementedError AttributeError "
    "StopIteration NotImplemented property staticmethod classmethod super".split())
SPECIAL_METHODS = set(
    "__init__ __eq__ __repr__ __str__ __len__ __enter__ __exit__ __call__ __iter__ __lt__ __le__ __gt__ __ge__ "
    "__ne__ __add__ __sub__ __mul__ __floordiv__ __mod__ __pow__ __and__ __or__ __xor__ __lshift__ __rshift__ "
    "__neg__ __pos__ __invert__ __abs__ __bool__ __contains__ __getitem__ __setitem__".split())
NAMES_NOT_USED = set("register mro elements open input law version_info with_traceback add_note".split())
WORDS_NOT_USED = re.compile(
    r"\b(type|typing|typing_extensions|enum|Enum|IntEnum|StrEnum|Flag|IntFlag|Generic|Protocol|ABC|ABCMeta|"
    r"namedtuple|NamedTuple|TypedDict|TYPE_CHECKING|abstractmethod)\b|dataclass|overload|contextmanager")
FILES_NOT_USED = re.compile(r"law_.*|test|tests|testing|test_.*|site|conftest|sitecustomize|usercustomize|type|enum")
BUILTIN_METHODS = set(
    "append clear copy count endswith extend find get index insert isalnum isalpha isdigit islower isspace isupper "
    "items join keys ljust lower lstrip partition pop remove replace reverse rfind rjust rpartition rsplit rstrip "
    "setdefault split splitlines startswith strip update upper values zfill bit_length".split())


def package_files():
    """Returns the paths of all files of the package, compiled ones left out."""
    found = []
    for folder, folders, files in os.walk(PACKAGE):
        folders[:] = [name for name in folders if name != "__pycache__"]
        found.extend(os.path.join(folder, name) for name in files + folders)
    return sorted(found)


def python_files():
    return [path for path in package_files() if path.endswith(".py")]


def text_of(path):
    with open(path, encoding="utf-8", newline="") as file:
        return file.read()


def trees():
    return [(os.path.basename(path), ast.parse(text_of(path))) for path in python_files()]


def nodes_of(kinds):
    return [(name, node) for name, tree in trees() for node in ast.walk(tree) if isinstance(node, kinds)]


def is_plain(node, defined):
    """Tells whether an expression at module level is a plain value."""
    if isinstance(node, ast.Constant):
        return True
    if isinstance(node, (ast.List, ast.Tuple)):
        return all(is_plain(part, defined) for part in node.elts)
    if isinstance(node, ast.Dict):
        return all(is_plain(part, defined) for part in node.keys + node.values)
    if isinstance(node, ast.BinOp):
        return is_plain(node.left, defined) and is_plain(node.right, defined)
    if isinstance(node, ast.UnaryOp):
        return is_plain(node.operand, defined)
    return isinstance(node, ast.Name) and node.id in defined


class FileTests(unittest.TestCase):
    def test_l1_the_package_is_one_folder_of_python_files(self):
        self.assertTrue(python_files())
        for path in package_files():
            self.assertRegex(os.path.basename(path), r"\A[A-Za-z0-9_]+\.py\Z")
            self.assertEqual(os.path.dirname(path), PACKAGE)

    def test_l14_names_of_files(self):
        self.assertIn(os.path.join(PACKAGE, "__init__.py"), python_files())
        self.assertLessEqual(len(python_files()), 100)
        for path in python_files():
            stem = os.path.basename(path)[:-3]
            self.assertEqual(stem, stem.lower())
            self.assertIsNone(FILES_NOT_USED.fullmatch(stem), stem)
            self.assertTrue(stem == "__init__" or not hasattr(builtins, stem), stem)

    def test_l14_signs(self):
        for path in package_files():
            self.assertRegex(text_of(path), r"\A[ -~\n]*\Z", path)

    def test_l10_sizes(self):
        for path in python_files():
            lines = text_of(path).split("\n")
            self.assertLessEqual(len(lines), 399, path)
            for index, line in enumerate(lines):
                self.assertLessEqual(len(line), 120, (path, index + 1))
                self.assertNotIn("\t", line)
        for name, node in nodes_of((ast.FunctionDef, ast.Lambda)):
            self.assertLessEqual(node.end_lineno - node.lineno + 1, 40, (name, node.lineno))


class ImportTests(unittest.TestCase):
    def test_l2_imports_stand_at_the_top_and_name_modules_of_the_package(self):
        for name, tree in trees():
            ended = False
            for node in tree.body:
                if isinstance(node, ast.ImportFrom):
                    self.assertFalse(ended, (name, node.lineno))
                elif not (isinstance(node, ast.Expr) and isinstance(node.value, ast.Constant)):
                    ended = True
        for name, node in nodes_of((ast.Import, ast.ImportFrom)):
            self.assertIsInstance(node, ast.ImportFrom, (name, node.lineno))
            self.assertEqual(node.level, 0, (name, node.lineno))
            self.assertRegex(node.module, r"\A(maskededits\.[a-z]+|__future__)\Z", (name, node.lineno))
            for alias in node.names:
                self.assertNotEqual(alias.name, "*")

    def test_l16_imports_name_the_file_that_defines_the_name_and_run_in_no_circle(self):
        defined, needs = {}, {}
        for name, tree in trees():
            module = "maskededits." + name[:-3]
            defined[module] = {node.name for node in tree.body if isinstance(node, (ast.FunctionDef, ast.ClassDef))}
            defined[module] |= {node.targets[0].id for node in tree.body if isinstance(node, ast.Assign)}
            needs[module] = [node for node in tree.body if isinstance(node, ast.ImportFrom)]
        for module, imports in needs.items():
            for node in imports:
                for alias in node.names:
                    self.assertIn(alias.name, defined[node.module], (module, alias.name))
        done = {}
        def visit(module, above):
            self.assertNotIn(module, above)
            if module not in done:
                for node in needs[module]:
                    visit(node.module, above + [module])
                done[module] = True
        for module in needs:
            visit(module, [])


class NameTests(unittest.TestCase):
    def test_l3_module_level(self):
        for name, tree in trees():
            defined = set()
            for node in tree.body:
                if isinstance(node, (ast.FunctionDef, ast.ClassDef)):
                    defined.add(node.name)
                elif isinstance(node, ast.Assign):
                    self.assertEqual(len(node.targets), 1)
                    self.assertTrue(is_plain(node.value, defined), (name, node.lineno))
                    self.assertNotIn(node.targets[0].id, defined)
                    defined.add(node.targets[0].id)
                elif not isinstance(node, ast.ImportFrom):
                    self.assertIsInstance(node, ast.Expr, (name, node.lineno))
                    self.assertIsInstance(node.value, ast.Constant)

    def test_l12_plain_names(self):
        for name, node in nodes_of((ast.Name, ast.Attribute, ast.arg, ast.FunctionDef, ast.ClassDef)):
            word = {ast.Name: "id", ast.Attribute: "attr", ast.arg: "arg"}.get(type(node), "name")
            word = getattr(node, word)
            self.assertNotIn(word, NAMES_NOT_USED, (name, node.lineno))
            if isinstance(node, (ast.FunctionDef, ast.Attribute)) and word.startswith("__"):
                self.assertIn(word, SPECIAL_METHODS, (name, node.lineno))
            else:
                self.assertRegex(word, r"\A[A-Za-z][A-Za-z0-9_]*\Z", (name, node.lineno))

    def test_l8_builtins(self):
        for name, node in nodes_of(ast.Name):
            if hasattr(builtins, node.id):
                self.assertIn(node.id, ALLOWED_BUILTINS, (name, node.lineno))
                self.assertIsInstance(node.ctx, ast.Load, (name, node.lineno))
        for name, node in nodes_of((ast.arg, ast.FunctionDef, ast.ClassDef, ast.alias)):
            word = node.arg if isinstance(node, ast.arg) else node.name
            self.assertFalse(word in ALLOWED_BUILTINS, (name, word))

    def test_l15_no_variable_has_the_name_of_a_class_or_import(self):
        for name, tree in trees():
            bound = {node.name for node in tree.body if isinstance(node, ast.ClassDef)}
            bound |= {alias.name for node in tree.body if isinstance(node, ast.ImportFrom) for alias in node.names}
            for node in ast.walk(tree):
                if isinstance(node, ast.arg):
                    self.assertNotIn(node.arg, bound, (name, node.lineno))
                    self.assertFalse(hasattr(builtins, node.arg), (name, node.lineno))
                elif isinstance(node, ast.Name) and isinstance(node.ctx, ast.Store):
                    self.assertNotIn(node.id, bound, (name, node.lineno))
                    self.assertFalse(hasattr(builtins, node.id), (name, node.lineno))

    def test_l17_words(self):
        for path in python_files():
            for index, line in enumerate(text_of(path).split("\n")):
                self.assertIsNone(WORDS_NOT_USED.search(line), (path, index + 1))

    def test_l18_no_name_is_both_method_and_attribute(self):
        methods = {}
        for name, node in nodes_of(ast.ClassDef):
            words = [part.name for part in node.body if isinstance(part, ast.FunctionDef)]
            self.assertEqual(len(words), len(set(words)), (name, node.name))
            methods.update({word: (name, node.name) for word in words})
        for name, node in nodes_of(ast.Attribute):
            if isinstance(node.ctx, ast.Store):
                self.assertNotIn(node.attr, methods, (name, node.lineno))
                self.assertNotIn(node.attr, BUILTIN_METHODS - {"count", "index", "find", "get", "join", "copy"})

    def test_l23_no_other_function_has_the_name_of_a_generator(self):
        generators, others = [], set()
        for _, node in nodes_of(ast.FunctionDef):
            if any(isinstance(part, (ast.Yield, ast.YieldFrom)) for part in ast.walk(node)):
                generators.append(node.name)
            else:
                others.add(node.name)
        # The document itself names two methods records that yield, one of Past and one of Copy.
        self.assertEqual(len(generators), len(set(generators)) + 1, generators)
        self.assertEqual(generators.count("records"), 2)
        for word in generators:
            self.assertNotIn(word, others)
            self.assertNotIn(word, BUILTIN_METHODS)


class StatementTests(unittest.TestCase):
    def test_statements_and_expressions_that_are_not_used(self):
        banned = (ast.Global, ast.AsyncFunctionDef, ast.Await, ast.Set, ast.GeneratorExp, ast.Import)
        for name, node in nodes_of(banned):
            self.fail((name, type(node).__name__, node.lineno))

    def test_l4_l5_decorators(self):
        for name, node in nodes_of((ast.FunctionDef, ast.ClassDef)):
            words = [part.id for part in node.decorator_list]
            self.assertIn(words, [[], ["property"], ["staticmethod"], ["classmethod"]], (name, node.lineno))

    def test_l7_no_floats_and_no_division(self):
        for name, node in nodes_of(ast.Constant):
            self.assertNotIsInstance(node.value, (float, complex), (name, node.lineno))
        for name, node in nodes_of(ast.Div):
            self.fail(name)

    def test_l20_is_asks_for_none_true_and_false(self):
        for name, node in nodes_of(ast.Compare):
            for operator, right in zip(node.ops, node.comparators):
                if isinstance(operator, (ast.Is, ast.IsNot)):
                    self.assertIsInstance(right, ast.Constant, (name, node.lineno))
                    self.assertIn(right.value, [None, True, False])

    def test_l19_handlers_and_raises(self):
        own = {node.name for _, node in nodes_of(ast.ClassDef)}
        for name, node in nodes_of(ast.ExceptHandler):
            self.assertIsInstance(node.type, ast.Name, (name, node.lineno))
            self.assertIn(node.type.id, own | {"KeyError", "ZeroDivisionError"}, (name, node.lineno))
        for name, node in nodes_of(ast.Raise):
            if node.exc is not None:
                self.assertIsInstance(node.exc, ast.Call, (name, node.lineno))
                self.assertIsInstance(node.exc.func, ast.Name, (name, node.lineno))

    def test_l27_strings(self):
        for name, node in nodes_of(ast.Constant):
            if isinstance(node.value, str):
                self.assertNotIn("%", node.value, (name, node.lineno))
                self.assertNotRegex(node.value, r"\A__.*__\Z|\._\Z|\.__\Z", (name, node.lineno))
        for path in python_files():
            for index, line in enumerate(text_of(path).split("\n")):
                for sign in re.findall(r"\\(.)", line):
                    self.assertIn(sign, "nt\\\"'", (path, index + 1))

    def test_l25_no_sort_and_no_stored_views(self):
        for name, node in nodes_of(ast.Call):
            if isinstance(node.func, ast.Attribute):
                self.assertNotEqual(node.func.attr, "sort", (name, node.lineno))

    def test_l25_methods_of_builtin_values_are_allowed_ones(self):
        own = {part.name for _, node in nodes_of(ast.ClassDef) for part in node.body if isinstance(part, ast.FunctionDef)}
        for name, node in nodes_of(ast.Call):
            if isinstance(node.func, ast.Attribute):
                self.assertIn(node.func.attr, own | BUILTIN_METHODS, (name, node.lineno))

    def test_l25_methods_are_called_where_they_stand(self):
        kept = {node.attr for _, node in nodes_of(ast.Attribute) if isinstance(node.ctx, ast.Store)}
        plain = {part.name for _, node in nodes_of(ast.ClassDef) for part in node.body
                 if isinstance(part, ast.FunctionDef) and not [each for each in part.decorator_list if each.id == "property"]}
        for name, tree in trees():
            called = {id(node.func) for node in ast.walk(tree) if isinstance(node, ast.Call)}
            for node in ast.walk(tree):
                if isinstance(node, ast.Attribute) and node.attr in plain - kept:
                    self.assertIn(id(node), called, (name, node.lineno))

    def test_l23_what_yields_is_iterated_at_once(self):
        words = {node.name for _, node in nodes_of(ast.FunctionDef)
                 if any(isinstance(part, (ast.Yield, ast.YieldFrom)) for part in ast.walk(node))}
        words |= {"zip", "enumerate", "reversed", "range"}
        for name, tree in trees():
            above = {id(part): node for node in ast.walk(tree) for part in ast.iter_child_nodes(node)}
            for node in ast.walk(tree):
                if isinstance(node, ast.Call) and getattr(node.func, "id", getattr(node.func, "attr", None)) in words:
                    around = above[id(node)]
                    if isinstance(around, ast.Call):
                        self.assertIn(around.func.id, {"list", "tuple", "dict", "sorted", "enumerate", "zip"}, (name, node.lineno))
                    else:
                        self.assertIsInstance(around, (ast.For, ast.comprehension, ast.YieldFrom), (name, node.lineno))

    def test_l23_no_loop_changes_what_it_walks(self):
        paths = python_files()
        rows = rows_that_change(*[text_of(path) for path in paths])
        self.assertEqual([(path, found) for path, found in zip(paths, rows) if found], [])

    def test_l18_classes_are_not_used_as_values(self):
        own = {node.name for _, node in nodes_of(ast.ClassDef)}
        for name, tree in trees():
            above = {id(part): node for node in ast.walk(tree) for part in ast.iter_child_nodes(node)}
            for node in ast.walk(tree):
                if isinstance(node, ast.Name) and node.id in own:
                    around = above[id(node)]
                    if isinstance(around, ast.Call) and around.func is not node:
                        self.assertEqual(around.func.id, "isinstance", (name, node.lineno))
                    elif isinstance(around, ast.Attribute):
                        # Static methods are called off their class.
                        self.assertEqual([node.id, around.attr], ["Script", "read"], (name, node.lineno))
                    else:
                        self.assertIsInstance(around, (ast.Call, ast.ClassDef, ast.ExceptHandler), (name, node.lineno))

    def test_l6_exits_of_blocks_only_assign_attributes(self):
        for name, node in nodes_of(ast.FunctionDef):
            if node.name == "__exit__":
                for part in node.body:
                    self.assertIsInstance(part, ast.Assign, (name, part.lineno))
                    self.assertIsInstance(part.value, ast.Constant, (name, part.lineno))
                    self.assertIsInstance(part.targets[0], ast.Attribute, (name, part.lineno))


if __name__ == "__main__":
    unittest.main()
