"""Rules of the language that a program can see: names, imports, statements, sizes."""

import ast
import builtins
import pathlib
import re
import unittest

FOLDER = pathlib.Path(__file__).resolve().parent.parent / 'hoststack'
FILES = sorted(FOLDER.rglob('*'))
MODULES = [path for path in FILES if path.suffix == '.py']
TREES = {path.stem: ast.parse(path.read_text()) for path in MODULES}

BUILTINS = set('''len range enumerate zip min max sum abs sorted reversed int str bool bytes list tuple dict set
    isinstance ord repr any all divmod ValueError KeyError super'''.split())
METHODS = set('''append clear copy count endswith extend find get index insert isalnum isalpha isdigit islower isspace
    isupper items join keys ljust lower lstrip partition pop remove replace reverse rfind rjust rpartition rsplit
    rstrip setdefault split splitlines startswith strip update upper values zfill bit_length isascii'''.split())
BARRED = set('''mro elements open input law version_info with_traceback add_note register attrgetter breakpoint
    builtins compile copyright credits delattr dir eval exec exit gc getattr globals hasattr help id importlib license
    locals methodcaller os quit setattr type vars sys typing enum dataclass'''.split())
STATEMENTS = (ast.FunctionDef, ast.ClassDef, ast.Return, ast.Assign, ast.AugAssign, ast.For, ast.While, ast.If,
              ast.Raise, ast.Try, ast.Assert, ast.Delete, ast.Expr, ast.Pass, ast.Break, ast.Continue, ast.ImportFrom)


def nodes(kind):
    return [(stem, node) for stem, tree in TREES.items() for node in ast.walk(tree) if isinstance(node, kind)]


def assigned(tree):
    """Return the names that a tree assigns, its parameters included."""
    found = [node.id for node in ast.walk(tree) if isinstance(node, ast.Name) and not isinstance(node.ctx, ast.Load)]
    return set(found + [node.arg for node in ast.walk(tree) if isinstance(node, ast.arg)])


class LanguageTest(unittest.TestCase):
    def test_files(self):
        for path in FILES:
            if path.name != '__pycache__' and path.suffix != '.pyc':
                self.assertRegex(path.name, r'^[a-z_]+\.py$')

    def test_sizes_and_signs(self):
        for path in MODULES:
            text = path.read_text()
            lines = text.splitlines()
            self.assertLessEqual(len(lines), 399, path.name)
            self.assertLessEqual(max(len(line) for line in lines), 120, path.name)
            self.assertEqual(re.findall(r'[^\n -~]', text), [], path.name)
            self.assertTrue(text.endswith('\n'), path.name)

    def test_functions_are_small_and_plain(self):
        for stem, node in nodes(ast.FunctionDef):
            self.assertLessEqual(node.end_lineno - node.lineno + 1, 40, (stem, node.name))
            self.assertEqual(node.decorator_list, [], (stem, node.name))
            self.assertIsNotNone(ast.get_docstring(node) or node.name == '__init__' or None, (stem, node.name))
            self.assertTrue(not node.name.startswith('__') or node.name == '__init__', (stem, node.name))

    def test_statements(self):
        for stem, node in nodes(ast.stmt):
            self.assertIsInstance(node, STATEMENTS, (stem, node.lineno))

    def test_imports(self):
        for stem, node in nodes(ast.ImportFrom):
            self.assertTrue(node.module.startswith('hoststack.') and node.level == 0, stem)
            defined = [row.name for row in TREES[node.module[10:]].body if hasattr(row, 'name')]
            defined.extend(row.targets[0].id for row in TREES[node.module[10:]].body if isinstance(row, ast.Assign))
            for alias in node.names:
                self.assertIn(alias.name, defined, stem)
                self.assertIsNone(alias.asname, stem)
        self.assertEqual(nodes(ast.Import), [])

    def test_imports_make_no_ring(self):
        needs = {stem: [row.module[10:] for row in tree.body if isinstance(row, ast.ImportFrom)]
                 for stem, tree in TREES.items()}
        done = []
        while len(done) < len(needs):
            ready = [stem for stem in needs if stem not in done and all(one in done for one in needs[stem])]
            self.assertNotEqual(ready, [])
            done.extend(ready)

    def test_imports_are_used(self):
        for stem, tree in TREES.items():
            read = {node.id for node in ast.walk(tree) if isinstance(node, ast.Name)}
            for node in tree.body:
                if isinstance(node, ast.ImportFrom):
                    for alias in node.names:
                        self.assertIn(alias.name, read, stem)

    def test_module_level(self):
        kinds = (ast.ImportFrom, ast.FunctionDef, ast.ClassDef, ast.Assign)
        for stem, tree in TREES.items():
            bound = []
            for place, node in enumerate(tree.body):
                self.assertTrue(isinstance(node, kinds) or place == 0, (stem, node.lineno))
                if isinstance(node, ast.Assign):
                    self.check_plain(node.value, bound)
                    bound.extend(target.id for target in node.targets)
                if isinstance(node, ast.ImportFrom):
                    bound.extend(alias.name for alias in node.names)
                if hasattr(node, 'name'):
                    bound.append(node.name)
            self.assertEqual(len(bound), len(set(bound)), stem)
            classes = {node.name for node in tree.body if isinstance(node, ast.ClassDef)}
            imports = {alias.name for node in tree.body if isinstance(node, ast.ImportFrom) for alias in node.names}
            for node in ast.walk(tree):
                if isinstance(node, (ast.FunctionDef, ast.Lambda)):
                    self.assertEqual(assigned(node) & (classes | imports), set(), stem)

    def check_plain(self, value, bound):
        """A module-level value is plain; a dict may also have functions that are defined above."""
        if isinstance(value, ast.Dict) and any(isinstance(row, ast.Name) for row in value.values):
            self.assertEqual([row.id for row in value.values if row.id not in bound], [])
            value = ast.List(elts=value.keys)
        ast.literal_eval(value)

    def test_no_method_is_read_off_a_class(self):
        classes = {node.name for stem, node in nodes(ast.ClassDef)}
        for stem, node in nodes(ast.Attribute):
            if isinstance(node.value, ast.Name) and node.value.id in classes:
                self.assertEqual(node.attr, '__init__', (stem, node.lineno))

    def test_names(self):
        for stem, tree in TREES.items():
            for name in assigned(tree):
                self.assertNotIn(name, dir(builtins), stem)
                self.assertNotIn(name, BARRED, stem)
            for node in ast.walk(tree):
                if isinstance(node, ast.Name) and node.id in dir(builtins):
                    self.assertIn(node.id, BUILTINS, (stem, node.lineno))

    def test_methods(self):
        own = {node.name for stem, node in nodes(ast.FunctionDef)}
        stored = {node.attr for stem, node in nodes(ast.Attribute) if isinstance(node.ctx, ast.Store)}
        for stem, node in nodes(ast.Call):
            if isinstance(node.func, ast.Attribute):
                name = node.func.attr
                self.assertTrue(name in own or name in METHODS or name == '__init__', (stem, node.lineno, name))
        self.assertEqual(stored & METHODS - {'count', 'index'}, set())
        for stem, node in nodes(ast.ClassDef):
            methods = [row.name for row in node.body if isinstance(row, ast.FunctionDef)]
            self.assertEqual(len(methods), len(set(methods)))
            attributes = {row.attr for row in ast.walk(node) if isinstance(row, ast.Attribute)
                          and isinstance(row.ctx, ast.Store)}
            self.assertEqual(attributes & set(methods), set(), node.name)
            for name in methods:
                self.assertFalse(name in BARRED or name in dir(str) + dir(list) + dir(dict) and name not in METHODS
                                 and not name.startswith('__'), name)

    def test_no_name_is_a_method_and_an_attribute(self):
        classes = {node.name: node for stem, node in nodes(ast.ClassDef)}
        for name in classes:
            methods, attributes, waiting = set(), set(), [name]
            while waiting:
                node = classes[waiting.pop()]
                waiting.extend(base.id for base in node.bases if base.id in classes)
                methods.update(row.name for row in node.body if isinstance(row, ast.FunctionDef))
                attributes.update(row.attr for row in ast.walk(node) if isinstance(row, ast.Attribute)
                                  and isinstance(row.ctx, ast.Store))
            self.assertEqual(methods & attributes, set(), name)

    def test_values(self):
        for stem, node in nodes(ast.Constant):
            self.assertNotIsInstance(node.value, (float, complex), stem)
            if isinstance(node.value, str):
                self.assertNotIn('%', node.value, stem)
        for stem, node in nodes(ast.BinOp):
            self.assertNotIsInstance(node.op, (ast.Div, ast.MatMult, ast.Pow), stem)
        for stem, node in nodes((ast.Global, ast.Nonlocal, ast.Yield, ast.YieldFrom, ast.GeneratorExp, ast.AsyncFor,
                                 ast.AnnAssign, ast.Set, ast.SetComp, ast.JoinedStr, ast.NamedExpr)):
            self.fail((stem, node.lineno))

    def test_comparisons_by_is(self):
        for stem, node in nodes(ast.Compare):
            for sign, other in zip(node.ops, node.comparators):
                if isinstance(sign, (ast.Is, ast.IsNot)):
                    self.assertTrue(isinstance(other, ast.Constant), (stem, node.lineno))

    def test_errors(self):
        own = {node.name for node in TREES['errors'].body if isinstance(node, ast.ClassDef)}
        for stem, node in nodes(ast.ExceptHandler):
            for caught in (node.type.elts if isinstance(node.type, ast.Tuple) else [node.type]):
                self.assertIn(caught.id, own, (stem, node.lineno))
        for stem, node in nodes(ast.Raise):
            self.assertTrue(node.exc is None or node.exc.func.id in own, (stem, node.lineno))


if __name__ == '__main__':
    unittest.main()
