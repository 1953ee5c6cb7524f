"""The rules of the project's language that a short test can see, and where the interface is defined."""

import ast
import builtins
import pathlib
import re
import unittest

PACKAGE = pathlib.Path(__file__).resolve().parent.parent / "fullqueue"

INTERFACE = {
    "errors": (
        "BufferFailed CapacityMismatch EffectFailed EmptyQueue FullQueue InvalidCapacity InvalidCommand InvalidEffect "
        "InvalidFacts InvalidInteger InvalidLetter InvalidMode InvalidProgram InvalidQueue InvalidText InvalidUser "
        "LimitExceeded NothingToUndo QueueError RunFailed"
    ),
    "letters": "is_capacity is_letter is_mode is_queue is_user",
    "programs": "count_steps is_program is_sequence last_puts repeat write_out",
    "profiles": "Profile",
    "lengths": "end_length least_capacity lossless_capacity lost_letters start_lengths",
    "buffers": (
        "Buffer NewestBuffer OldestBuffer Recorded RecordedNewest RecordedOldest RecordedStrict StrictBuffer make_buffer"
    ),
    "effects": "Effect",
    "running": "effect_of",
    "comparing": "generated separating_queue settling",
    "shortest": "shortest_sequence",
    "visibility": "exchangeable unseen_puts",
    "lines": "Line",
    "identifying": "fitting_capacities identify telling_length test_queues",
    "sessions": "Session",
    "text_format": "format_effect parse_effect",
    "console": "Console",
}

METHODS = {
    "Profile": "__init__ puts takes low high fall offset of __add__ __mul__ __eq__",
    "Buffer": (
        "__init__ capacity queue is_full put take run drain __call__ __len__ __bool__ __getitem__ __contains__ __eq__ "
        "__repr__"
    ),
    "Recorded": "__init__ steps lost",
    "Effect": (
        "__init__ capacity rows identity failing lengths is_part_of power __call__ __getitem__ __contains__ __bool__ "
        "__mul__ __pow__ __eq__ __repr__"
    ),
    "Line": "__init__ contents gone run __len__ __getitem__",
    "Session": "__init__ capacity mode queue log run undo changes clone __len__ __eq__",
    "Console": "__init__ execute __len__",
}

ALLOWED_BUILTINS = set(
    "len range enumerate zip min max sum abs sorted reversed int str bool bytes list tuple dict set frozenset isinstance "
    "ord repr any all divmod pow getattr hasattr setattr iter next map super property classmethod staticmethod Exception "
    "ValueError TypeError KeyError IndexError LookupError ZeroDivisionError ArithmeticError OverflowError RuntimeError "
    "NotImplementedError AttributeError StopIteration NotImplemented".split()
)

VALUE_METHODS = set(
    "append clear copy count endswith extend find get index insert isalnum isalpha isdigit islower isspace isupper items "
    "join keys ljust lower lstrip partition pop remove replace reverse rfind rjust rpartition rsplit rstrip setdefault "
    "split splitlines startswith strip update upper values zfill bit_length add discard removeprefix".split()
)

ALLOWED_DUNDERS = set(
    "__init__ __eq__ __repr__ __str__ __len__ __enter__ __exit__ __call__ __iter__ __add__ __mul__ __pow__ __bool__ "
    "__contains__ __getitem__".split()
)

BARRED_WORDS = set(
    "type typing enum Enum IntEnum Flag Generic Protocol ABC namedtuple NamedTuple TypedDict abstractmethod register mro "
    "elements open input law global async float chr eval exec".split()
)


def sources():
    return {path.stem: path.read_text(encoding="utf-8") for path in sorted(PACKAGE.glob("*.py"))}


def trees():
    return {name: ast.parse(text) for name, text in sources().items()}


def defined(tree):
    names = [node.name for node in tree.body if isinstance(node, (ast.FunctionDef, ast.ClassDef))]
    return names + [node.targets[0].id for node in tree.body if isinstance(node, ast.Assign)]


def functions(tree):
    return [node for node in ast.walk(tree) if isinstance(node, ast.FunctionDef)]


class FilesTest(unittest.TestCase):
    def test_the_folder_holds_plain_files_only(self):
        for path in PACKAGE.iterdir():
            if path.name != "__pycache__":
                self.assertRegex(path.name, r"^[a-z0-9_]+\.py$")
        self.assertIn("__init__", sources())

    def test_characters_and_sizes(self):
        for name, text in sources().items():
            self.assertRegex(text, r"^[ -~\n]*$", name)
            lines = text.split("\n")
            self.assertLessEqual(len(lines) - 1, 399, name)
            self.assertLessEqual(max(len(line) for line in lines), 120, name)
            for function in functions(ast.parse(text)):
                self.assertLessEqual(function.end_lineno - function.lineno + 1, 40, function.name)

    def test_module_level(self):
        allowed = (ast.FunctionDef, ast.ClassDef, ast.ImportFrom, ast.Assign)
        for name, tree in trees().items():
            for at, node in enumerate(tree.body):
                docstring = at == 0 and isinstance(node, ast.Expr) and isinstance(node.value, ast.Constant)
                self.assertTrue(docstring or isinstance(node, allowed), f"{name}:{node.lineno}")
            bound = defined(tree) + [
                alias.name for node in tree.body if isinstance(node, ast.ImportFrom) for alias in node.names
            ]
            self.assertEqual(len(bound), len(set(bound)), name)

    def test_imports_name_the_defining_file_and_have_no_cycles(self):
        needs = {}
        for name, tree in trees().items():
            needs[name] = set()
            for node in ast.walk(tree):
                self.assertNotIsInstance(node, ast.Import)
                if isinstance(node, ast.ImportFrom):
                    package, _, target = node.module.partition(".")
                    self.assertEqual((package, node.level), ("fullqueue", 0))
                    needs[name].add(target)
                    for alias in node.names:
                        self.assertIn(alias.name, defined(trees()[target]))
        while needs:
            ready = [name for name in needs if not needs[name] & set(needs)]
            self.assertTrue(ready, f"cycle among {sorted(needs)}")
            for name in ready:
                del needs[name]


class WordsTest(unittest.TestCase):
    def test_builtins(self):
        known = set(dir(builtins))
        for name, tree in trees().items():
            for node in ast.walk(tree):
                if isinstance(node, ast.Name) and node.id in known:
                    self.assertIn(node.id, ALLOWED_BUILTINS, f"{name}:{node.lineno}")
                    self.assertIsInstance(node.ctx, ast.Load, f"{name}:{node.lineno}")
                if isinstance(node, ast.arg):
                    self.assertNotIn(node.arg, known, f"{name}:{node.lineno}")

    def test_methods(self):
        own = {function.name for tree in trees().values() for function in functions(tree)}
        for name, tree in trees().items():
            for node in ast.walk(tree):
                if isinstance(node, ast.Call) and isinstance(node.func, ast.Attribute):
                    self.assertIn(node.func.attr, VALUE_METHODS | own, f"{name}:{node.lineno}")
            for function in functions(tree):
                if function.name.startswith("__"):
                    self.assertIn(function.name, ALLOWED_DUNDERS, name)

    def test_barred_words(self):
        for name, tree in trees().items():
            for node in ast.walk(tree):
                if isinstance(node, ast.Constant) and isinstance(node.value, str):
                    self.assertNotIn("%", node.value, name)
                for word in (getattr(node, field, None) for field in ("id", "attr", "arg", "name")):
                    self.assertNotIn(word, BARRED_WORDS, name)
                self.assertNotIsInstance(node, (ast.Global, ast.Div, ast.AsyncFunctionDef), name)
                self.assertFalse(isinstance(node, ast.Constant) and isinstance(node.value, float), name)

    def test_names_of_imports_and_classes_have_one_meaning(self):
        for name, tree in trees().items():
            taken = {node.name for node in tree.body if isinstance(node, ast.ClassDef)}
            taken |= {alias.name for node in tree.body if isinstance(node, ast.ImportFrom) for alias in node.names}
            for node in ast.walk(tree):
                if isinstance(node, ast.Name) and not isinstance(node.ctx, ast.Load):
                    self.assertNotIn(node.id, taken, f"{name}:{node.lineno}")
                if isinstance(node, ast.arg):
                    self.assertNotIn(node.arg, taken, f"{name}:{node.lineno}")

    def test_imports_are_used(self):
        for name, tree in trees().items():
            used = {node.id for node in ast.walk(tree) if isinstance(node, ast.Name)}
            for node in tree.body:
                if isinstance(node, ast.ImportFrom):
                    for alias in node.names:
                        self.assertIn(alias.name, used, name)

    def test_caught_errors(self):
        for name, tree in trees().items():
            for node in ast.walk(tree):
                if isinstance(node, ast.ExceptHandler):
                    self.assertIsNotNone(node.type, name)
                    self.assertIsNone(re.search(r"\b(Exception|TypeError|OverflowError)\b", ast.unparse(node.type)))


class ClassesTest(unittest.TestCase):
    def setUp(self):
        self.classes = [node for tree in trees().values() for node in tree.body if isinstance(node, ast.ClassDef)]

    def test_classes_with_items_say_how_they_are_iterated_over(self):
        for node in self.classes:
            found = {part.name for part in node.body if isinstance(part, ast.FunctionDef)}
            self.assertTrue("__getitem__" not in found or "__iter__" in found, node.name)

    def test_no_name_is_a_method_and_an_attribute(self):
        methods = {function.name for node in self.classes for function in functions(node)}
        for node in self.classes:
            for part in ast.walk(node):
                if isinstance(part, ast.Attribute) and isinstance(part.ctx, ast.Store):
                    self.assertNotIn(part.attr, methods, node.name)

    def test_generators_have_names_of_their_own(self):
        names = [function.name for tree in trees().values() for function in functions(tree)]
        for tree in trees().values():
            for function in functions(tree):
                if any(isinstance(node, (ast.Yield, ast.YieldFrom)) for node in ast.walk(function)):
                    self.assertEqual(names.count(function.name), 1, function.name)

    def test_names_do_not_begin_with_two_underscores(self):
        for tree in trees().values():
            for node in ast.walk(tree):
                if isinstance(node, ast.Attribute) and node.attr.startswith("__"):
                    self.assertIn(node.attr, ("__init__", "__class__", "__name__"))


class InterfaceTest(unittest.TestCase):
    def test_each_name_is_defined_in_its_file(self):
        for name, words in INTERFACE.items():
            found = [node.name for node in trees()[name].body if isinstance(node, (ast.FunctionDef, ast.ClassDef))]
            for word in words.split():
                self.assertIn(word, found)

    def test_each_method_is_defined_in_its_class(self):
        classes = [node for tree in trees().values() for node in tree.body if isinstance(node, ast.ClassDef)]
        for node in classes:
            found = [part.name for part in node.body if isinstance(part, ast.FunctionDef)]
            for word in METHODS.get(node.name, "").split():
                self.assertIn(word, found)


if __name__ == "__main__":
    unittest.main()
