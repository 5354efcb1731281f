"""Rules of the language that a look at the files can tell (the numbers are those of LANGUAGE.md)."""

import ast
import builtins
import pathlib
import re
import unittest

ROOT = pathlib.Path(__file__).resolve().parent.parent
PACKAGE = ROOT / "deepcodes"
FILES = sorted(path for path in PACKAGE.rglob("*.py"))
LIBRARY = {
    "math": {"gcd", "lcm", "isqrt", "comb", "perm", "factorial"},
    "itertools": {"product", "combinations", "permutations", "chain", "accumulate", "pairwise", "islice"},
}
BUILTINS = set(
    "len range enumerate zip min max sum abs sorted reversed int str bool bytes list tuple dict set frozenset"
    " isinstance ord repr any all divmod Exception ValueError TypeError KeyError IndexError LookupError".split()
)
METHODS = set(
    "append clear copy count endswith extend find get index insert isalnum isalpha isdigit islower isspace isupper"
    " items join keys ljust lower lstrip partition pop remove replace reverse rfind rjust rpartition rsplit rstrip"
    " setdefault split splitlines startswith strip update upper values zfill bit_length".split()
)
BARRED = set(
    "register mro elements open input law version_info with_traceback add_note attrgetter breakpoint builtins compile"
    " copyright credits delattr dir eval exec exit gc getattr globals hasattr help id importlib license locals"
    " methodcaller os quit setattr super type vars sys".split()
)
AT_ONCE = {"zip", "enumerate", "reversed", "range"}
TAKERS = {"list", "tuple", "dict", "sorted", "sum", "any", "all", "enumerate", "zip", "min", "max", "combinations"}


def parsed(path):
    return ast.parse(path.read_text(encoding="utf-8"))


def module_of(path):
    parts = path.relative_to(ROOT).with_suffix("").parts
    return ".".join(parts[:-1] if parts[-1] == "__init__" else parts)


def functions_of(tree):
    return [node for node in ast.walk(tree) if isinstance(node, ast.FunctionDef)]


def bound_names(function):
    """The parameters and the local variables of a function."""
    names = [argument.arg for argument in ast.walk(function.args) if isinstance(argument, ast.arg)]
    names += [node.id for node in ast.walk(function) if isinstance(node, ast.Name) and isinstance(node.ctx, ast.Store)]
    return set(names)


class TestLanguage(unittest.TestCase):
    def test_files(self):
        """L1, L14"""
        for folder in [PACKAGE] + [path for path in PACKAGE.rglob("*") if path.is_dir() and path.name != "__pycache__"]:
            self.assertTrue((folder / "__init__.py").exists(), folder)
            for path in folder.iterdir():
                self.assertTrue(path.is_dir() or path.suffix in (".py", ".pyc"), path)
                self.assertFalse(path.is_file() and (folder / path.stem).is_dir(), path)
        for path in FILES:
            self.assertEqual(path.name, path.name.lower())
            self.assertFalse(path.stem in dir(builtins) or path.stem in BARRED, path)

    def test_size(self):
        """L10, L14"""
        for path in FILES:
            text = path.read_text(encoding="utf-8")
            self.assertTrue(all(sign == "\n" or " " <= sign <= "~" for sign in text), path)
            lines = text.split("\n")
            self.assertLessEqual(len(lines), 399, path)
            self.assertLessEqual(max(len(line) for line in lines), 120, path)
            for function in functions_of(parsed(path)):
                self.assertLessEqual(function.end_lineno - function.lineno + 1, 40, function.name)

    def test_imports(self):
        """L2, L16: each name from the file that defines it, and no circles."""
        needs = {}
        for path in FILES:
            needs[module_of(path)] = set()
            for node in ast.walk(parsed(path)):
                self.assertNotIsInstance(node, ast.Import)
                if isinstance(node, ast.ImportFrom):
                    names = {alias.name for alias in node.names}
                    self.assertTrue(all(alias.asname is None for alias in node.names))
                    if node.module in LIBRARY:
                        self.assertLessEqual(names, LIBRARY[node.module])
                        continue
                    self.assertEqual(node.level, 0)
                    self.assertTrue(node.module.startswith("deepcodes."), path)
                    needs[module_of(path)].add(node.module)
                    self.assertLessEqual(names, self.defined(ROOT / (node.module.replace(".", "/") + ".py")))
        while needs:
            free = [name for name in needs if not needs[name] & set(needs)]
            self.assertTrue(free, needs)
            for name in free:
                del needs[name]

    def defined(self, path):
        found = set()
        for node in parsed(path).body:
            if isinstance(node, (ast.FunctionDef, ast.ClassDef)):
                found.add(node.name)
            elif isinstance(node, ast.Assign):
                found.update(target.id for target in node.targets)
        return found

    def test_module_level(self):
        """L3, L15"""
        for path in FILES:
            bound, functions = [], set()
            for node in parsed(path).body:
                if isinstance(node, ast.FunctionDef):
                    functions.add(node.name)
                if isinstance(node, ast.Expr):
                    self.assertIsInstance(node.value.value, str)
                elif isinstance(node, ast.Assign):
                    self.assertEqual(len(node.targets), 1)
                    self.assertTrue(self.is_plain(node.value, functions), (path, node.lineno))
                    bound.append(node.targets[0].id)
                elif isinstance(node, ast.ImportFrom):
                    bound += [alias.name for alias in node.names]
                else:
                    self.assertIsInstance(node, (ast.FunctionDef, ast.ClassDef))
                    bound.append(node.name)
            self.assertEqual(len(bound), len(set(bound)), path)

    def is_plain(self, node, functions):
        """Whether a value is plain, or a dict of functions that are defined above it."""
        if isinstance(node, ast.Dict) and all(isinstance(value, ast.Name) for value in node.values):
            return all(isinstance(key, ast.Constant) for key in node.keys) and {v.id for v in node.values} <= functions
        try:
            ast.literal_eval(node)
        except ValueError:
            return False
        return True

    def test_names(self):
        """L12, L15, L17"""
        for path in FILES:
            tree = parsed(path)
            taken = {alias.name for node in ast.walk(tree) if isinstance(node, ast.ImportFrom) for alias in node.names}
            taken |= {node.name for node in tree.body if isinstance(node, ast.ClassDef)}
            for function in functions_of(tree):
                names = bound_names(function)
                if function.name not in ("__init__", "__len__", "__str__"):
                    names.add(function.name)
                self.assertFalse((names - {function.name}) & taken, (path, function.name, names & taken))
                self.assertFalse(names & (set(dir(builtins)) | BARRED), (path, function.name))
                self.assertFalse([name for name in names if not re.fullmatch("_|_?[a-zA-Z][a-zA-Z0-9_]*", name)])
            named = [node for node in ast.walk(tree) if isinstance(node, ast.Name)]
            reads = [node.id for node in named if isinstance(node.ctx, ast.Load)]
            self.assertNotIn("_", reads)
            used = set(reads) & set(dir(builtins))
            self.assertLessEqual(used, BUILTINS, path)

    def test_attributes(self):
        """L25, L26"""
        for path in FILES:
            for node in ast.walk(parsed(path)):
                if isinstance(node, ast.Attribute):
                    is_own = isinstance(node.value, ast.Name) and node.value.id in ("self", "DeepError")
                    self.assertTrue(is_own or node.attr in METHODS, (path, node.attr))

    def test_operators(self):
        """L7, L20, L27"""
        for path in FILES:
            for node in ast.walk(parsed(path)):
                self.assertNotIsInstance(node, (ast.Div, ast.AsyncFunctionDef, ast.Global, ast.YieldFrom, ast.Try))
                if isinstance(node, ast.Constant):
                    self.assertNotIsInstance(node.value, (float, complex))
                    self.assertFalse(isinstance(node.value, str) and "%" in node.value, path)
                if isinstance(node, ast.BinOp) and isinstance(node.op, ast.Pow):
                    self.assertIsInstance(node.right, ast.Constant)
                if isinstance(node, ast.Compare) and isinstance(node.ops[0], (ast.Is, ast.IsNot)):
                    self.assertIn(node.comparators[0].value, (None, True, False))

    def test_iterated_at_once(self):
        """L23, L24"""
        for path in FILES:
            tree = parsed(path)
            takers = set()
            for node in ast.walk(tree):
                if isinstance(node, (ast.For, ast.comprehension)):
                    takers.add(node.iter)
                if isinstance(node, ast.Call) and isinstance(node.func, ast.Name) and node.func.id in TAKERS:
                    takers.update(node.args)
            for node in ast.walk(tree):
                if isinstance(node, ast.Call) and isinstance(node.func, ast.Name) and node.func.id in AT_ONCE:
                    self.assertIn(node, takers, (path, node.lineno))
                self.assertNotIsInstance(node, ast.Set)

    def test_defined_names_are_used_or_promised(self):
        reads = set()
        for path in FILES + sorted((ROOT / "tests").glob("*.py")):
            for node in ast.walk(parsed(path)):
                if isinstance(node, ast.Name):
                    reads.add(node.id)
                if isinstance(node, ast.Attribute):
                    reads.add(node.attr)
                if isinstance(node, ast.Constant) and isinstance(node.value, str):
                    reads.add(node.value)
        for path in FILES:
            tree = parsed(path)
            local = {node.id for node in ast.walk(tree) if isinstance(node, ast.Name)}
            for node in tree.body:
                if isinstance(node, ast.FunctionDef):
                    self.assertTrue(node.name in reads, (path, node.name))
                if isinstance(node, ast.ImportFrom):
                    self.assertLessEqual({alias.name for alias in node.names}, local, path)


if __name__ == "__main__":
    unittest.main()
