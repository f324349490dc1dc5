"""The rules of the language subset that a look at the syntax can check.

The names Lnn are those of the subset's rules; what is not checked here is
still required.
"""

import ast
import builtins
import pathlib
import re
import unittest

PACKAGE = pathlib.Path(__file__).resolve().parent.parent / "latecomers"

BUILTINS = set("""len range enumerate zip min max sum abs sorted reversed int str bool bytes list tuple dict set
    frozenset isinstance ord repr any all divmod iter next Exception ValueError TypeError KeyError IndexError
    LookupError ZeroDivisionError ArithmeticError OverflowError RuntimeError NotImplementedError AttributeError
    StopIteration NotImplemented""".split())

METHODS = set("""append clear copy count endswith extend find get index insert isalnum isalpha isdigit islower
    isspace isupper items join keys ljust lower lstrip partition pop remove replace reverse rfind rjust rpartition
    rsplit rstrip setdefault split splitlines startswith strip update upper values zfill bit_length title capitalize
    swapcase casefold center expandtabs removeprefix removesuffix rindex isascii isdecimal isnumeric istitle
    isidentifier isprintable add discard""".split())

WORDS = """type typing typing_extensions enum Enum IntEnum StrEnum Flag IntFlag Generic Protocol ABC ABCMeta namedtuple
    NamedTuple TypedDict TYPE_CHECKING abstractmethod""".split()

NO_NAMES = set("register mro elements open input law version_info with_traceback add_note".split())

DOUBLE = set("""init eq repr str len enter exit call iter lt le gt ge ne add sub mul floordiv mod pow and or xor neg
    pos invert abs bool contains getitem setitem""".split())

STATEMENTS = (ast.Assign, ast.AugAssign, ast.If, ast.While, ast.For, ast.Return, ast.Break, ast.Continue, ast.Pass,
              ast.Raise, ast.Assert, ast.Delete, ast.Nonlocal, ast.Match, ast.With, ast.Try, ast.Expr,
              ast.FunctionDef, ast.ClassDef, ast.ImportFrom)

INTERFACE = {
    "errors": """LateError NoWidth NoSpace NoMatrix NoRule NoStand NoWord NoState Unlike NoClaims NoMany NoCells
        NoCell NoNumber NoVector NoMessage NoListener NoScript NoChaser TooGreat NoSender NoText""",
    "spaces": "space in_space joined common image vanishing",
    "listeners": "Listener",
    "scripts": "Script script_hear compiled",
    "senders": "Sender",
    "reach": "reach settle table_fault run_fault",
    "late": "entries after level when_sure late_run sure_cells last_claims",
    "latejudges": "from_fault late_fault never_fault",
    "alike": "parted part_fault forms_table forms_fault",
    "pairs": "alike_listeners pair_fault pair_run_fault",
    "chasers": "Chaser brings_level brings_alike chase_fault chase_run_fault",
    "resets": "reset_word reset_fault",
    "ears": "Ear set_stand tried branches",
    "texts": "listener_text sender_text read_listener read_sender",
}

LISTED_METHODS = {
    "Listener": """__init__ __eq__ __getitem__ kind_count control_count cell_count start hear hear_all seen
        word_map""",
    "Script": "__init__",
    "Sender": "__init__ state_count ways states_behind lets",
    "Chaser": "__init__ start hear spoken",
    "Ear": """__init__ hear control cells __getitem__ __setitem__ seen stand __len__ trace __enter__ __exit__""",
}

# What iterates at once over the call that is its first argument.
AT_ONCE = set("list tuple dict sorted sum any all enumerate zip min max".split())
PASSING = set("zip enumerate reversed range items keys values".split())


def sources():
    return {path.stem: path.read_text(encoding="utf-8") for path in sorted(PACKAGE.glob("*.py"))}


class LanguageTest(unittest.TestCase):

    def setUp(self):
        self.texts = sources()
        self.trees = {name: ast.parse(text) for name, text in self.texts.items()}
        self.assertIn("spaces", self.trees)

    def nodes(self, *kinds):
        for name, tree in self.trees.items():
            for node in ast.walk(tree):
                if isinstance(node, kinds):
                    yield f"{name}.py:{getattr(node, 'lineno', 0)}", node

    def bound_names(self):
        """Yield all names that the package gives to something."""
        for where, node in self.nodes(ast.Name, ast.arg, ast.FunctionDef, ast.ClassDef, ast.Attribute):
            if isinstance(node, ast.Name) and isinstance(node.ctx, ast.Store):
                yield where, node.id
            elif isinstance(node, ast.arg):
                yield where, node.arg
            elif isinstance(node, (ast.FunctionDef, ast.ClassDef)):
                yield where, node.name
            elif isinstance(node, ast.Attribute):
                yield where, node.attr

    def top_names(self, name):
        return [node.name for node in self.trees[name].body if isinstance(node, (ast.FunctionDef, ast.ClassDef))]

    def test_files(self):  # L1, L14
        for path in PACKAGE.iterdir():
            if path.name != "__pycache__":
                self.assertRegex(path.name, r"^[a-z][a-z0-9_]*\.py$|^__init__\.py$")
                self.assertNotIn(path.stem, dir(builtins))
        for name, text in self.texts.items():
            self.assertIsNone(re.search(r"[^ -~\n]", text), name)

    def test_sizes(self):  # L10
        for name, text in self.texts.items():
            lines = text.split("\n")
            self.assertLessEqual(len(lines), 399, name)
            self.assertLessEqual(max(len(line) for line in lines), 120, name)
        for where, node in self.nodes(ast.FunctionDef):
            self.assertLessEqual(node.end_lineno - node.lineno + 1, 40, where)

    def test_imports(self):  # L2, L16
        after = {}
        for name, tree in self.trees.items():
            after[name] = set()
            for node in tree.body:
                if isinstance(node, ast.ImportFrom):
                    package, _, file = node.module.partition(".")
                    self.assertEqual((package, node.level), ("latecomers", 0))
                    after[name].add(file)
                    names = self.top_names(file) + [
                        target.id for other in self.trees[file].body if isinstance(other, ast.Assign)
                        for target in other.targets]
                    for alias in node.names:
                        self.assertIsNone(alias.asname)
                        self.assertIn(alias.name, names)
        self.assertFalse(list(self.nodes(ast.Import)))
        while after:
            free = [name for name, others in after.items() if not others & set(after)]
            self.assertTrue(free, f"these import from each other: {sorted(after)}")
            after = {name: others for name, others in after.items() if name not in free}

    def test_module_level(self):  # L3, L15
        for name, tree in self.trees.items():
            bound = []
            for at, node in enumerate(tree.body):
                docstring = at == 0 and isinstance(node, ast.Expr) and isinstance(node.value, ast.Constant)
                self.assertTrue(docstring or isinstance(node, (ast.ImportFrom, ast.FunctionDef, ast.ClassDef,
                                                               ast.Assign)), f"{name}.py:{node.lineno}")
                bound += [alias.name for alias in node.names] if isinstance(node, ast.ImportFrom) else []
                bound += [target.id for target in node.targets] if isinstance(node, ast.Assign) else []
            bound += self.top_names(name)
            self.assertEqual(len(bound), len(set(bound)), name)

    def test_statements_and_expressions(self):  # L6, L7, L20
        for where, node in self.nodes(ast.stmt):
            self.assertIsInstance(node, STATEMENTS, where)
        for where, node in self.nodes(ast.Div, ast.MatMult, ast.Global, ast.Await, ast.AnnAssign):
            self.fail(where)
        for where, node in self.nodes(ast.GeneratorExp):
            self.fail(f"{where}: a class has operators, so this is a list")
        for where, node in self.nodes(ast.Constant):
            self.assertNotIsInstance(node.value, (float, complex), where)
        for where, node in self.nodes(ast.Compare):
            for operator, other in zip(node.ops, node.comparators):
                if isinstance(operator, (ast.Is, ast.IsNot)):
                    self.assertTrue(isinstance(other, ast.Constant) and other.value in (None, True, False), where)

    def test_stars_and_sets(self):  # L7, L24
        for where, node in self.nodes(ast.Subscript):
            self.assertFalse([inner for inner in ast.walk(node.slice) if isinstance(inner, ast.Starred)], where)
        placed = set()
        for where, node in self.nodes(ast.Call, ast.Compare):
            if isinstance(node, ast.Compare):
                placed |= {id(other) for other in [node.left, *node.comparators]}
            elif isinstance(node.func, ast.Name) and node.func.id in ("sorted", "len"):
                placed |= {id(argument) for argument in node.args}
        for where, node in self.nodes(ast.Set, ast.SetComp):
            self.assertIn(id(node), placed, where)

    def test_names(self):  # L8, L12, L15, L17
        imported = {alias.name for _, node in self.nodes(ast.ImportFrom) for alias in node.names}
        decorators = {id(other) for _, node in self.nodes(ast.FunctionDef) for other in node.decorator_list}
        for where, name in self.bound_names():
            plain = re.fullmatch(r"[A-Za-z][A-Za-z0-9_]*", name)
            self.assertTrue(plain or name[2:-2] in DOUBLE and name == f"__{name[2:-2]}__", f"{where}: {name}")
            self.assertNotIn(name, NO_NAMES, where)
        for where, node in self.nodes(ast.Name, ast.arg, ast.FunctionDef, ast.ClassDef):
            if isinstance(node, ast.Name) and isinstance(node.ctx, ast.Load):
                if node.id in dir(builtins) and id(node) not in decorators:
                    self.assertIn(node.id, BUILTINS, where)
            else:
                name = getattr(node, "id", None) or getattr(node, "arg", None) or node.name
                self.assertNotIn(name, dir(builtins), where)
                if not isinstance(node, (ast.FunctionDef, ast.ClassDef)):
                    self.assertFalse(name in imported and self.imports(where, name), f"{where}: {name}")

    def imports(self, where, name):
        tree = self.trees[where.partition(".")[0]]
        return any(alias.name == name for node in tree.body if isinstance(node, ast.ImportFrom)
                   for alias in node.names)

    def test_words_and_strings(self):  # L17, L27
        for name, text in self.texts.items():
            found = re.findall(r"[A-Za-z_][A-Za-z0-9_]*", text)
            self.assertFalse(set(found) & set(WORDS), name)
            self.assertIsNone(re.search("dataclass|overload|contextmanager", text), name)
        for where, node in self.nodes(ast.Constant):
            if isinstance(node.value, str):
                self.assertNotIn("%", node.value, where)

    def test_methods_and_attributes(self):  # L18, L25, L26
        methods = {item.name for _, node in self.nodes(ast.ClassDef) for item in node.body
                   if isinstance(item, ast.FunctionDef) and not item.decorator_list}
        properties = {item.name for _, node in self.nodes(ast.ClassDef) for item in node.body
                      if isinstance(item, ast.FunctionDef) and item.decorator_list}
        stored = {node.attr for _, node in self.nodes(ast.Attribute) if isinstance(node.ctx, ast.Store)}
        self.assertFalse(methods & stored)
        called = {id(node.func) for _, node in self.nodes(ast.Call)}
        setters = {id(other) for _, node in self.nodes(ast.FunctionDef) for other in node.decorator_list}
        for where, node in self.nodes(ast.Attribute):
            if id(node) in called:
                self.assertIn(node.attr, methods | METHODS | {"__init__"}, where)
            elif isinstance(node.ctx, ast.Load) and id(node) not in setters:
                self.assertIn(node.attr, stored | methods | properties, where)
        self.assertFalse(properties & (methods | stored | METHODS))

    def test_decorators(self):  # L4, L5
        for where, node in self.nodes(ast.FunctionDef, ast.ClassDef):
            for decorator in node.decorator_list:
                self.assertIn(ast.unparse(decorator), ("property", f"{node.name}.setter"), where)

    def test_annotations_and_defaults(self):  # L4, L21
        for where, node in self.nodes(ast.arg):
            self.assertIsNone(node.annotation, where)
        for where, node in self.nodes(ast.FunctionDef, ast.Lambda):
            for default in node.args.defaults + [item for item in node.args.kw_defaults if item]:
                self.assertIsInstance(default, ast.Constant, where)
            self.assertFalse(node.args.posonlyargs, where)

    def test_iterated_at_once(self):  # L23
        generators = {node.name for _, node in self.nodes(ast.FunctionDef)
                      if any(isinstance(inner, (ast.Yield, ast.YieldFrom)) for inner in ast.walk(node))}
        self.assertEqual(generators, {"trace"})
        placed = set()
        for where, node in self.nodes(ast.For, ast.comprehension):
            placed.add(id(node.iter))
        for where, node in self.nodes(ast.Call):
            if isinstance(node.func, ast.Name) and node.func.id in AT_ONCE and node.args:
                placed.update(id(argument) for argument in node.args)
            if isinstance(node.func, ast.Name) and node.func.id == "reversed":
                placed.update(id(argument) for argument in node.args if ast.unparse(argument).startswith("range("))
        for where, node in self.nodes(ast.Call):
            name = getattr(node.func, "id", None) or getattr(node.func, "attr", None)
            if name in PASSING | generators:
                self.assertIn(id(node), placed, where)
        self.assertEqual(len([node for _, node in self.nodes(ast.FunctionDef) if node.name in generators]), 1)

    def test_loops_leave_alone_what_they_iterate_over(self):  # L23
        for where, node in self.nodes(ast.For):
            names = {inner.id for inner in ast.walk(node.iter) if isinstance(inner, ast.Name)}
            for inner in [inner for row in node.body for inner in ast.walk(row)]:
                if isinstance(inner, ast.AugAssign):
                    self.assertNotIn(ast.unparse(inner.target), names, where)
                if isinstance(inner, ast.Call) and isinstance(inner.func, ast.Attribute):
                    if inner.func.attr in ("append", "extend", "pop", "remove", "clear", "insert", "update"):
                        self.assertNotIn(ast.unparse(inner.func.value), names, where)

    def test_keywords(self):  # L22
        own = {node.name for _, node in self.nodes(ast.FunctionDef, ast.ClassDef)}
        for where, node in self.nodes(ast.Call):
            if isinstance(node.func, ast.Name) and node.func.id not in own:
                for keyword in node.keywords:
                    self.assertIn((node.func.id, keyword.arg), [("sorted", "key")], where)

    def test_blocks_that_end(self):  # L6
        for where, node in self.nodes(ast.With):
            for item in node.items:
                self.assertIsInstance(item.context_expr, ast.Name, where)
        for where, node in self.nodes(ast.FunctionDef):
            if node.name == "__exit__":
                for row in node.body:
                    self.assertIsInstance(row, ast.Assign, where)
                    self.assertRegex(ast.unparse(row), r"^self\.[a-z]+ = self(\.[a-z]+)+$", where)
            if node.name == "__len__":
                self.assertRegex(ast.unparse(node.body[0]), r"^return len\(", where)
        for where, node in self.nodes(ast.Try):
            self.fail(f"{where}: nothing here needs a try")

    def test_no_import_is_left_over(self):
        for name, tree in self.trees.items():
            used = {node.id for node in ast.walk(tree) if isinstance(node, ast.Name)}
            for node in tree.body:
                if isinstance(node, ast.ImportFrom):
                    self.assertFalse({alias.name for alias in node.names} - used, name)

    def test_interface_stands_where_it_is_listed(self):
        for name, listed in INTERFACE.items():
            for wanted in listed.split():
                self.assertIn(wanted, self.top_names(name))
        classes = {node.name: node for _, node in self.nodes(ast.ClassDef)}
        for name, listed in LISTED_METHODS.items():
            own = {item.name for item in classes[name].body if isinstance(item, ast.FunctionDef)}
            self.assertFalse(set(listed.split()) - own)


if __name__ == "__main__":
    unittest.main()
