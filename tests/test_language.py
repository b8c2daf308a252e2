"""The rules of the language that can be seen by a look at the files."""

import ast
import pathlib
import re
import unittest

PACKAGE = pathlib.Path(__file__).resolve().parent.parent / "pagefall"
FILES = sorted(PACKAGE.glob("*.py"))
LIBRARY = {"heapq", "math", "itertools", "collections"}
BUILTINS = set("""len range enumerate zip min max sum abs sorted reversed int str bool list tuple dict set isinstance ord repr any all
divmod ValueError""".split())
METHODS = set("""append clear copy count endswith extend find get index insert isalnum isalpha isdigit islower isspace isupper items
join keys ljust lower lstrip partition pop remove replace reverse rfind rjust rpartition rsplit rstrip setdefault split splitlines
startswith strip update upper values zfill bit_length isascii add""".split())
BANNED = """type typing enum Enum Generic Protocol namedtuple dataclass overload property eval exec globals locals vars dir id hash
object next iter map filter format open input register mro elements law super compile exit help license quit
getattr setattr hasattr delattr""".split()
NODES_NOT_USED = (ast.Global, ast.Nonlocal, ast.With, ast.AsyncFunctionDef, ast.GeneratorExp, ast.Yield, ast.YieldFrom,
                  ast.Match, ast.Starred, ast.SetComp, ast.Await, ast.AnnAssign, ast.Div, ast.Delete)


class LanguageTest(unittest.TestCase):
    def each(self):
        for file in FILES:
            text = file.read_text(encoding="utf-8")
            yield file.name, text, ast.parse(text)

    def test_the_folder(self):
        things = [thing for thing in PACKAGE.iterdir() if thing.name != "__pycache__"]
        self.assertEqual(sorted(things), FILES)
        self.assertIn(PACKAGE / "__init__.py", FILES)
        self.assertLessEqual(len(FILES), 100)
        for file in FILES:
            self.assertRegex(file.name, r"^[a-z_]+\.py$")

    def test_sizes(self):
        for name, text, tree in self.each():
            lines = text.split("\n")
            self.assertLessEqual(len(lines), 399, name)
            self.assertLessEqual(max(len(line) for line in lines), 120, name)
            self.assertRegex(text, r"^[ -~\n]*$", name)
            for node in ast.walk(tree):
                if isinstance(node, ast.FunctionDef):
                    self.assertLessEqual(node.end_lineno - node.lineno + 1, 40, (name, node.name))

    def test_imports(self):
        graph = {}
        for name, _, tree in self.each():
            graph[name] = []
            for node in ast.walk(tree):
                self.assertNotIsInstance(node, ast.Import)
                if isinstance(node, ast.ImportFrom):
                    self.assertIn(node, tree.body)
                    self.assertEqual(node.level, 0)
                    self.assertTrue(all(alias.asname is None for alias in node.names))
                    if node.module not in LIBRARY:
                        file = PACKAGE / (node.module.partition("pagefall.")[2] + ".py")
                        self.assertIn(file, FILES, (name, node.module))
                        graph[name].append(file.name)
                        self.check_defined(file, [alias.name for alias in node.names])
        done = []
        while len(done) < len(graph):
            free = [name for name in graph if name not in done and all(other in done for other in graph[name])]
            self.assertNotEqual(free, [])
            done.extend(free)

    def check_defined(self, file, names):
        for name in names:
            self.assertRegex(file.read_text(encoding="utf-8"), r"(?m)^(def " + name + r"\(|class " + name + r"[(:]|" + name + " = )")

    def test_statements_and_builtins(self):
        for name, text, tree in self.each():
            bound = {node.name for node in tree.body if isinstance(node, (ast.FunctionDef, ast.ClassDef))}
            for node in tree.body:
                if isinstance(node, ast.ImportFrom):
                    bound |= {alias.name for alias in node.names}
                elif isinstance(node, ast.Assign):
                    bound |= {target.id for target in node.targets}
                self.assertIsInstance(node, (ast.ImportFrom, ast.FunctionDef, ast.ClassDef, ast.Assign, ast.Expr))
            for node in ast.walk(tree):
                self.assertNotIsInstance(node, NODES_NOT_USED, (name, getattr(node, "lineno", 0)))
                if isinstance(node, ast.FunctionDef):
                    self.assertEqual(node.decorator_list, [])
                    self.check_names(name, node, bound)

    def check_names(self, file, function, bound):
        own = {argument.arg for node in ast.walk(function) if isinstance(node, ast.arguments) for argument in node.args}
        stored = {node.id for node in ast.walk(function) if isinstance(node, ast.Name) and isinstance(node.ctx, ast.Store)}
        self.assertEqual((own | stored) & (bound | BUILTINS), set(), (file, function.name))
        known = own | stored | bound | BUILTINS | self.around(file, function)
        for node in ast.walk(function):
            if isinstance(node, ast.Name) and isinstance(node.ctx, ast.Load):
                self.assertIn(node.id, known, (file, function.name))

    def around(self, file, function):
        """The names that a nested function may read from the one around it."""
        tree = ast.parse((PACKAGE / file).read_text(encoding="utf-8"))
        names = set()
        for node in ast.walk(tree):
            if isinstance(node, ast.FunctionDef) and node.lineno < function.lineno and function.end_lineno <= node.end_lineno:
                names |= {part.arg for part in ast.walk(node) if isinstance(part, ast.arg)}
                names |= {part.id for part in ast.walk(node) if isinstance(part, ast.Name)}
            elif isinstance(node, ast.FunctionDef) and function.lineno < node.lineno <= function.end_lineno:
                names.add(node.name)
        return names

    def test_attributes(self):
        own = set()
        for _, _, tree in self.each():
            for node in ast.walk(tree):
                if isinstance(node, ast.FunctionDef):
                    own.add(node.name)
                elif isinstance(node, ast.Attribute) and isinstance(node.ctx, ast.Store):
                    own.add(node.attr)
        for name, _, tree in self.each():
            for node in ast.walk(tree):
                if isinstance(node, ast.Attribute):
                    self.assertIn(node.attr, own | METHODS | {"__init__"}, name)

    def test_errors_that_are_caught(self):
        """Handlers name own errors alone; what stands in a finally is the assignment of a name to an attribute."""
        for name, _, tree in self.each():
            for node in ast.walk(tree):
                if isinstance(node, ast.Try):
                    for handler in node.handlers:
                        self.assertIsInstance(handler.type, ast.Name, name)
                        self.assertNotIn(handler.type.id, BUILTINS, name)
                    for row in node.finalbody:
                        self.assertIsInstance(row, ast.Assign, name)
                        self.assertIsInstance(row.value, ast.Name, name)
                        self.assertIsInstance(row.targets[0], ast.Attribute, name)

    def test_names_of_attributes(self):
        """L26: no value of an object has a name that values of Python's own have, but for those that are let."""
        let = set("count index title find get join lower upper split strip copy add".split())
        named = set("""items keys values pop update append clear extend insert remove reverse setdefault sort args encode decode hex
            fromhex format""".split())
        for kind in (str, int, bool, list, tuple, dict, set, frozenset, bytes):
            named |= {name for name in dir(kind) if not name.startswith("_")}
        stored = 0
        for name, _, tree in self.each():
            for node in ast.walk(tree):
                if isinstance(node, ast.Attribute) and not isinstance(node.ctx, ast.Load):
                    stored += 1
                    self.assertNotIn(node.attr, named - let, (name, node.lineno))
                elif isinstance(node, ast.ClassDef):
                    for part in node.body:
                        if isinstance(part, ast.FunctionDef):
                            self.assertNotIn(part.name, named, (name, part.lineno))
        self.assertGreater(stored, 100)

    def test_words(self):
        for name, text, tree in self.each():
            for node in ast.walk(tree):
                if isinstance(node, (ast.Name, ast.Attribute, ast.FunctionDef, ast.ClassDef, ast.arg, ast.keyword)):
                    word = getattr(node, "id", None) or getattr(node, "attr", None) or getattr(node, "name", None)
                    self.assertNotIn(word or node.arg, BANNED, (name, node))
                elif isinstance(node, ast.Constant) and isinstance(node.value, float):
                    self.fail((name, node.lineno))
            for node in ast.walk(tree):
                if isinstance(node, ast.Constant) and isinstance(node.value, str):
                    self.assertIsNone(re.search(r"__", node.value), name)
            self.assertNotIn(".sort(", text)


if __name__ == "__main__":
    unittest.main()
