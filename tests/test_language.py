"""Rules of the language that a look at the files can tell; the numbers are those of the rules."""

import ast
import builtins
import re
import unittest
from pathlib import Path

FOLDER = Path(__file__).resolve().parent.parent / "anyseven"
BUILTINS = set("""
    len range enumerate zip min max sum abs sorted reversed int str bool bytes list tuple dict set frozenset isinstance
    ord repr any all divmod pow map iter next type super property staticmethod classmethod NotImplemented Exception
    ValueError TypeError KeyError IndexError LookupError ZeroDivisionError ArithmeticError OverflowError RuntimeError
    NotImplementedError AttributeError StopIteration""".split())
LIBRARY = {
    "heapq": {"heappush", "heappop", "heapify", "heapreplace", "heappushpop"},
    "math": {"gcd", "lcm", "isqrt", "comb", "perm", "factorial"},
    "itertools": {
        "product", "combinations", "permutations", "chain", "accumulate", "pairwise", "islice", "zip_longest"},
    "collections": {"defaultdict", "deque"},
}
DUNDERS = set("__init__ __eq__ __repr__ __str__ __len__ __enter__ __exit__ __call__ __iter__ __bool__ __contains__".split())
BARRED = re.compile(
    r"\b(register|mro|elements|open|input|law|version_info|with_traceback|add_note|compile|copyright|credits|delattr|dir|"
    r"eval|exec|exit|gc|globals|help|id|importlib|license|locals|os|quit|vars|sys|typing|enum|namedtuple|Protocol)\b")
NODES = (ast.AsyncFunctionDef, ast.Await, ast.Div, ast.MatMult, ast.TryStar)


def files():
    return sorted(path for path in FOLDER.rglob("*") if path.is_file() and "__pycache__" not in path.parts)


def package():
    for path in files():
        text = path.read_text("utf-8")
        yield path.name, text, ast.parse(text)


class Language(unittest.TestCase):

    def each(self, kind):
        for name, _, tree in package():
            for node in ast.walk(tree):
                if isinstance(node, kind):
                    yield f"{name}:{getattr(node, 'lineno', 0)}", node

    def test_files(self):
        """L1, L10, L14."""
        names = {path.name for path in files()}
        self.assertIn("__init__.py", names)
        self.assertLessEqual(len(names), 100)
        for path in files():
            self.assertRegex(path.name, r"\A[a-z_0-9]+\.py\Z")
            self.assertFalse(path.stem[0] != "_" and hasattr(builtins, path.stem), path)
            self.assertFalse(re.match(r"(law_|tests?$|test_|testing$|site$|conftest$)", path.stem), path)

    def test_lines(self):
        """L10, L14, L27."""
        for name, text, tree in package():
            lines = text.split("\n")
            self.assertLessEqual(len(lines), 400, name)
            for number, line in enumerate(lines, 1):
                self.assertRegex(line, r"\A[ -~]{0,120}\Z", f"{name}:{number}")
            for node in ast.walk(tree):
                if isinstance(node, ast.FunctionDef):
                    self.assertLessEqual(node.end_lineno - node.lineno + 1, 40, f"{name}:{node.lineno}")

    def test_imports(self):
        """L2, L15, L16."""
        graph = {}
        for name, _, tree in package():
            graph[name[:-3]] = []
            bound, used = set(), {node.id for node in ast.walk(tree) if isinstance(node, ast.Name)}
            for node in ast.walk(tree):
                self.assertNotIsInstance(node, ast.Import, name)
                if not isinstance(node, ast.ImportFrom):
                    continue
                self.assertIn(node, tree.body)
                names = {alias.name for alias in node.names}
                self.assertFalse([alias for alias in node.names if alias.asname or alias.name == "*"], name)
                self.assertFalse(names & bound, name)
                self.assertLessEqual(names, used, name)
                bound |= names
                if node.module in LIBRARY:
                    self.assertLessEqual(names, LIBRARY[node.module], name)
                else:
                    self.assertRegex(node.module, r"\Aanyseven\.[a-z_]+\Z")
                    source = node.module.partition(".")[2]
                    graph[name[:-3]].append(source)
                    self.assertLessEqual(names, self.bound_in(source), name)
        self.assertEqual(graph["__init__"], [])
        while graph:
            free = [name for name, needs in graph.items() if not set(needs) & set(graph)]
            self.assertTrue(free, f"files import from each other: {sorted(graph)}")
            for name in free:
                del graph[name]

    def bound_in(self, source):
        names = set()
        for node in ast.parse((FOLDER / f"{source}.py").read_text("utf-8")).body:
            if isinstance(node, ast.Assign):
                names.add(node.targets[0].id)
            elif isinstance(node, (ast.FunctionDef, ast.ClassDef)):
                names.add(node.name)
        return names

    def test_module_level(self):
        """L3, L15."""
        for name, _, tree in package():
            bound = []
            for at, node in enumerate(tree.body):
                if isinstance(node, ast.Assign):
                    self.assertIsInstance(node.targets[0], ast.Name)
                    bound.append(node.targets[0].id)
                elif isinstance(node, (ast.FunctionDef, ast.ClassDef)):
                    bound.append(node.name)
                elif not isinstance(node, ast.ImportFrom):
                    self.assertTrue(at == 0 and isinstance(node, ast.Expr), f"{name}:{node.lineno}")
            self.assertEqual(len(bound), len(set(bound)), name)

    def test_names(self):
        """L8, L12, L15, L17."""
        for name, _, tree in package():
            taken = {node.name for node in tree.body if isinstance(node, ast.ClassDef)}
            for node in tree.body:
                if isinstance(node, ast.ImportFrom):
                    taken |= {alias.name for alias in node.names}
            local = {node.arg for node in ast.walk(tree) if isinstance(node, ast.arg)}
            for node in ast.walk(tree):
                if isinstance(node, ast.Name):
                    if isinstance(node.ctx, ast.Store):
                        local.add(node.id)
                    elif hasattr(builtins, node.id):
                        self.assertIn(node.id, BUILTINS, name)
            self.assertFalse(local & taken, name)
            self.assertFalse([one for one in local if hasattr(builtins, one)], name)
            for one in local:
                self.assertRegex(one, r"\A(_|_?[A-Za-z][A-Za-z0-9_]*)\Z", name)

    def test_barred_words(self):
        """L17."""
        for place, node in self.each((ast.Name, ast.arg, ast.Attribute, ast.FunctionDef, ast.ClassDef, ast.keyword)):
            word = next((getattr(node, key) for key in ("id", "arg", "attr", "name") if hasattr(node, key)), None)
            self.assertFalse(BARRED.fullmatch(word or ""), place)

    def test_statements_and_signs(self):
        """L6, L7, L19, L21."""
        for place, node in self.each(ast.AST):
            self.assertNotIsInstance(node, NODES, place)
            if isinstance(node, ast.Constant):
                self.assertNotIsInstance(node.value, (float, complex), place)
            if isinstance(node, (ast.FunctionDef, ast.ClassDef)):
                self.assertLessEqual({ast.unparse(one) for one in node.decorator_list}, {"staticmethod"}, place)
            if isinstance(node, ast.GeneratorExp):
                self.fail(f"{place}: classes have __eq__, so lists are taken instead")
            if isinstance(node, ast.Raise) and node.exc is not None:
                self.assertIsInstance(node.exc, ast.Call, place)

    def test_methods(self):
        """L5, L18, L26, L28."""
        methods, attributes = {}, {}
        for place, node in self.each(ast.ClassDef):
            names = [one.name for one in node.body if isinstance(one, ast.FunctionDef)]
            self.assertEqual(len(names), len(set(names)), place)
            for name in names:
                if name.startswith("__"):
                    self.assertIn(name, DUNDERS, place)
            methods[node.name] = {name for name in names if not name.startswith("__")}
            attributes[node.name] = {
                one.attr for one in ast.walk(node) if isinstance(one, ast.Attribute) and isinstance(one.ctx, ast.Store)}
            self.assertFalse(methods[node.name] & attributes[node.name], place)
        for name in set().union(*methods.values(), *attributes.values()):
            for kind in (int, str, list, dict, set, bytes, tuple):
                self.assertFalse(hasattr(kind, name), name)

    def test_strings(self):
        """L27: no sign of the formats of old, so that % always stands between numbers."""
        for place, node in self.each(ast.Constant):
            if isinstance(node.value, str):
                self.assertNotIn("%", node.value, place)


if __name__ == "__main__":
    unittest.main()
