"""The files of the package against those rules of the language that can be read off them."""

import ast
import builtins
import re
import unittest
from pathlib import Path

from iterated import rows_against_l23

PACKAGE = Path(__file__).resolve().parent.parent / "holdfills"
FILES = sorted(PACKAGE.glob("**/*.py"))

BUILTINS = set("""len range enumerate zip min max sum abs sorted reversed int str bool bytes list tuple dict set
    frozenset isinstance ord repr any all divmod iter next Exception ValueError TypeError KeyError IndexError
    LookupError ZeroDivisionError ArithmeticError OverflowError RuntimeError NotImplementedError AttributeError
    StopIteration NotImplemented""".split())
METHODS = set("""append clear copy count endswith extend find get index insert isalnum isalpha isdigit islower isspace
    isupper items join keys ljust lower lstrip partition pop remove replace reverse rfind rjust rpartition rsplit
    rstrip setdefault split splitlines startswith strip update upper values zfill bit_length add discard""".split())
LIBRARY = {
    "heapq": {"heappush", "heappop", "heapify", "heapreplace", "heappushpop"},
    "math": {"gcd", "lcm", "isqrt", "comb", "perm", "factorial"},
    "itertools": {"product", "combinations", "permutations", "chain", "accumulate", "pairwise", "islice", "zip_longest"},
    "collections": {"defaultdict"},
}
BARRED = """register mro elements open input law version_info with_traceback add_note attrgetter breakpoint compile
    copyright credits delattr dir eval exec exit gc globals help id importlib license locals methodcaller os quit vars
    type typing enum Enum Flag Generic Protocol ABC namedtuple""".split()
BARRED_STATEMENTS = (ast.Global, ast.AsyncFunctionDef, ast.AsyncFor, ast.AsyncWith, ast.Await)

# Rows of a function of xs, ys, d and k that keep L23, and rows that do not.
AT_ONCE = """for x in range(k): pass
for x, y in zip(xs, ys): pass
for x, (y, z) in enumerate(zip(xs, ys), start=1): pass
for x in reversed(range(k)): pass
return cut_row(list(range(sum(xs))), xs)
return cut_row(row=tuple(range(k)), sizes=xs)
return [x for x in range(k) for y in d.items()]
return any([x in xs for x in reversed(ys)])
return {x: y for x, y in zip(xs, ys)}, sum(x for x in d.values())
return dict(zip(xs, ys)), list(zip(range(k), xs)), tuple(enumerate(xs)), sorted(d.items(), reverse=True)
return sum(range(k)), any(d.values()), all(d.values()), max(d.values()), min(range(k), default=0)
return ", ".join(d.keys()), len(range(k)), len(d.items()), k in range(9), k not in d.keys()
r = range(k); return [x for x in r], [y for y in r], r[0], len(r), k in r, list(r), max(r)
r = range(k); return [x for x in zip(xs, r)], list(enumerate(r)), list(reversed(r))
v = d.items(); return [x for x in v], len(v), sorted(v), (k, k) in v""".split("\n")
NOT_AT_ONCE = """return cut_row(range(sum(xs)), xs)
own = list(zip(xs, cut_row(range(sum(ys)), ys)))
return cut_row(row=range(k), sizes=xs)
return cut_row(*range(k))
return cut_row(zip(xs, ys), xs)
return [cut_row(enumerate(xs), ys) for x in xs]
return cut_row(reversed(xs), ys)
return cut_row(d.items(), xs), k
return cut_row(d.keys(), xs), k
return cut_row(d.values(), xs), k
return range(k)
return [range(k)]
return (zip(xs, ys), k)
return {"a": range(k)}
return range(k)[0]
return range(k) == range(k)
return list(range(k)) + xs if range(k) else xs
return xs or range(k)
return lambda: range(k)
return zip(xs, range(k))
return list(zip(xs, range(k)))
return list(reversed(zip(xs, ys)))
return len(zip(xs, ys))
return max(range(k), k)
return max(range(k), key=abs)
return set(range(k))
return isinstance(range(k), tuple)
return xs.join(range(k))
return k in d.values()
a, b = range(2)
xs[0] = range(k)
xs.extend(range(k))
xs += range(k)
r = s = range(k)
r: object = range(k)
r = range(k); return r
r = range(k); return cut_row(r, xs)
r = range(k); return r == xs
r = range(k); return r[1:]
r = range(k); return [x for y in xs for x in (r or xs)]
r = range(k); return lambda: list(r)
r = range(k); return sum(x for x in r)
r = range(k); return zip(xs, r)
r = range(k); r = range(k + 1)
xs = range(k)
v = d.items(); return list(enumerate(v))
v = d.keys(); return v[0]
v = d.values(); return cut_row(v, xs)
it = zip(xs, ys); return cut_row(it, xs)""".split("\n")


def trees():
    return [(path, ast.parse(path.read_text(encoding="utf-8"))) for path in FILES]


def all_nodes(kinds):
    return [(path, node) for path, tree in trees() for node in ast.walk(tree) if isinstance(node, kinds)]


def is_read(name):
    return isinstance(name.ctx, ast.Load)


def in_a_function(row):
    return f"def told(xs, ys, d, k):\n    {row}\n"


def names_at_top(path):
    """Return the names that a file itself defines, by def, by class or by one assignment."""
    found = []
    for node in ast.parse(path.read_text(encoding="utf-8")).body:
        if isinstance(node, (ast.FunctionDef, ast.ClassDef)):
            found.append(node.name)
        if isinstance(node, ast.Assign):
            found.extend(target.id for target in node.targets)
    return found


class Files(unittest.TestCase):

    def test_l1_the_folder_contains_python_files_alone(self):
        self.assertIn(PACKAGE / "__init__.py", FILES)
        for path in PACKAGE.glob("**/*"):
            if "__pycache__" not in path.parts:
                self.assertRegex(path.name, r"^[a-z0-9_]+\.py$")

    def test_l10_sizes(self):
        for path in FILES:
            lines = path.read_text(encoding="utf-8").split("\n")
            self.assertLess(len(lines), 400, path)
            for line in lines:
                self.assertLessEqual(len(line), 120, (path, line))
        for path, node in all_nodes(ast.FunctionDef):
            self.assertLessEqual(node.end_lineno - node.lineno + 1, 40, (path, node.name))

    def test_l14_characters(self):
        for path in FILES:
            for character in path.read_bytes():
                self.assertTrue(character == 10 or 32 <= character <= 126, (path, character))


class Imports(unittest.TestCase):

    def test_l2_imports_stand_at_the_top_by_full_names(self):
        self.assertEqual(all_nodes(ast.Import), [])
        for path, node in all_nodes(ast.ImportFrom):
            self.assertEqual(node.level, 0, path)
            self.assertEqual(node.col_offset, 0, path)
            for one in node.names:
                self.assertIsNone(one.asname, path)
                if node.module in LIBRARY:
                    self.assertIn(one.name, LIBRARY[node.module])
                else:
                    self.assertTrue(node.module.startswith("holdfills."), (path, node.module))
                    source = PACKAGE.parent / (node.module.replace(".", "/") + ".py")
                    self.assertIn(one.name, names_at_top(source), path)

    def test_l15_one_binding_and_no_local_name_of_an_import(self):
        for path, tree in trees():
            bound = names_at_top(path)
            imported = [one.name for node in tree.body if isinstance(node, ast.ImportFrom) for one in node.names]
            self.assertEqual(len(bound + imported), len(set(bound + imported)), path)
            classes = [node.name for node in tree.body if isinstance(node, ast.ClassDef)]
            local = [node.id for node in ast.walk(tree) if isinstance(node, ast.Name) and isinstance(node.ctx, ast.Store)]
            local += [node.arg for node in ast.walk(tree) if isinstance(node, ast.arg)]
            self.assertEqual(set(local) & set(imported + classes), set(), path)
            for name in local + bound:
                self.assertFalse(hasattr(builtins, name), (path, name))

    def test_l16_no_two_files_import_from_each_other(self):
        graph = {}
        for path, tree in trees():
            modules = [node.module for node in tree.body if isinstance(node, ast.ImportFrom)]
            graph[path.stem] = {name.split(".")[1] for name in modules if name.startswith("holdfills.")}
        for name in graph:
            reached, waiting = set(), list(graph[name])
            while waiting:
                one = waiting.pop()
                if one not in reached:
                    reached.add(one)
                    waiting.extend(graph[one])
            self.assertNotIn(name, reached)

    def test_no_import_goes_unused(self):
        for path, tree in trees():
            read = [node.id for node in ast.walk(tree) if isinstance(node, ast.Name) and isinstance(node.ctx, ast.Load)]
            for node in tree.body:
                if isinstance(node, ast.ImportFrom):
                    for one in node.names:
                        self.assertIn(one.name, read, path)


    def test_each_name_that_is_read_is_bound(self):
        for path, tree in trees():
            known = names_at_top(path) + [one.name for node in tree.body if isinstance(node, ast.ImportFrom)
                                          for one in node.names]
            for node in ast.walk(tree):
                if isinstance(node, ast.FunctionDef):
                    local = [one.arg for one in ast.walk(node) if isinstance(one, ast.arg)]
                    local += [one.id for one in ast.walk(node) if isinstance(one, ast.Name) and not is_read(one)]
                    for one in ast.walk(node):
                        if isinstance(one, ast.Name) and is_read(one) and not hasattr(builtins, one.id):
                            self.assertIn(one.id, local + known, path)


class Statements(unittest.TestCase):

    def test_l3_module_level(self):
        for path, tree in trees():
            self.assertTrue(ast.get_docstring(tree), path)
            for node in tree.body[1:]:
                self.assertIsInstance(node, (ast.ImportFrom, ast.FunctionDef, ast.ClassDef, ast.Assign), path)

    def test_l4_l5_no_decorators_and_told_methods_alone(self):
        for path, node in all_nodes((ast.FunctionDef, ast.ClassDef)):
            self.assertEqual(node.decorator_list, [], (path, node.name))
            if node.name.startswith("__"):
                self.assertEqual(node.name, "__init__", path)

    def test_l6_statements(self):
        self.assertEqual(all_nodes(BARRED_STATEMENTS), [])

    def test_l7_l8_builtins_and_methods(self):
        for path, node in all_nodes(ast.Name):
            if hasattr(builtins, node.id):
                self.assertIn(node.id, BUILTINS, path)
        for path, node in all_nodes(ast.Call):
            if isinstance(node.func, ast.Attribute):
                self.assertIn(node.func.attr, METHODS, path)
        for path, node in all_nodes(ast.Constant):
            self.assertNotIsInstance(node.value, (float, complex), path)
        self.assertEqual(all_nodes((ast.Div, ast.MatMult)), [])

    def test_l20_is_stands_beside_none_true_false(self):
        for path, node in all_nodes(ast.Compare):
            if any(isinstance(sign, (ast.Is, ast.IsNot)) for sign in node.ops):
                self.assertIn(node.comparators[0].value, (None, True, False), path)

    def test_l23_what_is_iterated_at_once_stands_nowhere_else(self):
        for path in FILES:
            self.assertEqual(rows_against_l23(path.read_text(encoding="utf-8")), [], path)

    def test_l23_rows_that_keep_it_and_rows_that_do_not(self):
        for row in AT_ONCE:
            self.assertEqual(rows_against_l23(in_a_function(row)), [], row)
        for row in NOT_AT_ONCE:
            self.assertEqual(set(rows_against_l23(in_a_function(row))), {2}, row)
        self.assertEqual(rows_against_l23("ROOMS = range(3)\n"), [1])

    def test_l23_each_range_of_the_package_is_found_where_it_is_passed_on(self):
        tried = 0
        for path in FILES:
            text = path.read_text(encoding="utf-8")
            for found in re.finditer(r"(list|tuple)\(range\(", text):
                changed = text[:found.start(1)] + "cut_row" + text[found.end(1):]
                self.assertEqual(rows_against_l23(changed), [text.count("\n", 0, found.start()) + 1], path)
                tried += 1
        self.assertGreater(tried, 0)

    def test_l24_sets_stand_in_len_or_sorted(self):
        fitting = []
        for _, node in all_nodes(ast.Call):
            if isinstance(node.func, ast.Name) and node.func.id in ("len", "sorted"):
                fitting.extend((part.lineno, part.col_offset) for part in node.args)
        for path, node in all_nodes(ast.Call):
            if isinstance(node.func, ast.Name) and node.func.id == "set":
                self.assertIn((node.lineno, node.col_offset), fitting, path)

    def test_l12_l17_names(self):
        for path, tree in trees():
            for node in ast.walk(tree):
                for name in (getattr(node, "id", ""), getattr(node, "arg", ""), getattr(node, "attr", "")):
                    self.assertNotIn(name, BARRED, path)
                if isinstance(node, (ast.FunctionDef, ast.ClassDef)):
                    self.assertNotIn(node.name, BARRED, path)

    def test_l27_exponents_are_literals(self):
        for path, node in all_nodes(ast.BinOp):
            if isinstance(node.op, ast.Pow):
                self.assertIn(node.right.value, range(65), path)

    def test_l27_no_such_sign_in_strings(self):
        for path, node in all_nodes(ast.Constant):
            if isinstance(node.value, str):
                self.assertNotIn("%", node.value, path)


if __name__ == "__main__":
    unittest.main()
