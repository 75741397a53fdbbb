"""Those rules of the language and of the interface that can be read off the files of the package."""

import ast
import builtins
import keyword
import pathlib
import re
import unittest

ROOT = pathlib.Path(__file__).resolve().parent.parent
PACKAGE = ROOT / "underwords"
FILES = sorted(PACKAGE.rglob("*.py"))

BUILTINS = set("""len range enumerate zip min max sum abs sorted reversed int str bool bytes list tuple dict set frozenset
isinstance ord repr any all divmod pow getattr hasattr setattr map iter next Exception ValueError TypeError KeyError IndexError
LookupError ZeroDivisionError ArithmeticError OverflowError RuntimeError NotImplementedError AttributeError StopIteration
NotImplemented property classmethod staticmethod super type""".split())
METHODS = set("""append clear copy count endswith extend find get index insert isalnum isalpha isdigit islower isspace isupper
items join keys ljust lower lstrip partition pop remove replace reverse rfind rjust rpartition rsplit rstrip setdefault split
splitlines startswith strip update upper values zfill bit_length title capitalize swapcase casefold center expandtabs
removeprefix removesuffix rindex isascii isdecimal isnumeric istitle isidentifier isprintable add discard""".split())
DUNDERS = set("""__init__ __eq__ __repr__ __str__ __len__ __iter__ __bool__ __neg__ __add__ __sub__ __mul__ __call__ __contains__
__getitem__""".split())
BARRED = set("""register mro elements open input law version_info with_traceback add_note attrgetter breakpoint builtins compile
copyright credits delattr dir eval exec exit gc globals help id importlib license locals methodcaller os quit vars""".split())
WORDS = set("""typing typing_extensions enum Enum IntEnum StrEnum Flag IntFlag Generic Protocol ABC ABCMeta namedtuple NamedTuple
TypedDict TYPE_CHECKING abstractmethod dataclass overload contextmanager _wall _WallAttr""".split())
REFUSED = (ast.AsyncFunctionDef, ast.AsyncFor, ast.AsyncWith, ast.Await, ast.Import, ast.Div, ast.MatMult, ast.AnnAssign,
           ast.TryStar)
EATERS = ("any", "all", "min", "max", "sum", "sorted")
# What goes over a range, a zip, a view and the like on the spot, as its first argument.
WALKERS = ("list", "tuple", "dict", "sorted", "sum", "any", "all", "min", "max", "enumerate", "zip")
WALKED = ("range", "zip", "enumerate", "reversed")
VIEWS = ("items", "keys", "values")
CHANGING = ("append", "extend", "pop", "update", "setdefault", "remove", "clear", "insert", "add", "discard", "reverse", "sort")
# What a function creates itself, so that it may change it: lists and dicts, and objects of its package.
MADE = ("[", "{", "list(", "Element(", "Gold(", "Poly(")
LIBRARY = {"gcd", "lcm", "isqrt", "comb", "perm", "factorial"}

INTERFACE = {
    "errors.py": """WordError InvalidSystem InvalidWord InvalidMirror InvalidPoly InvalidElement InvalidRow InvalidLot
        InvalidOrder InvalidOperation ParseError InvalidNumber UnknownName TooMany Refused NothingToUndo""",
    "base/golds.py": "Gold",
    "base/polys.py": "Poly MAX_COEFFICIENTS MAX_EXPONENT MAX_RAISED",
    "groups/systems.py": "System MAX_LETTERS BONDS",
    "groups/words.py": """MAX_WORD MAX_MEMBERS MAX_LISTED MAX_LIKENED normal length is_shortest product inverse left_letters
        right_letters shortest_words members of_length likeness is_likeness""",
    "groups/mirrors.py": "MOST_LISTED is_mirror mirrors root_of mirror_of led_root inversions lot_paper is_lot_paper",
    "under/under.py": "MAX_UNDER MAX_PLACES is_under under_paper is_under_paper all_places members_under",
    "under/intervals.py": "interval numbers moebius covers_of ladder_number middle_pair",
    "under/lots.py": "MAX_ELEMENTS MAX_ALIKE Lot lot_of lot_likeness is_lot_likeness",
    "paths/orders.py": """MAX_MEMBERS MAX_PATHS mirror_row longest_member is_mirror_order order_paper is_order_paper word_of_order
        reversed_order moved_order rising_paths longest_rising is_rising rising_numbers path_numbers least_steps""",
    "ratio/rs.py": "r_poly r_row r_by_paths",
    "ratio/flags.py": "FLAG_PRIMES MOST_SIZE flag_count all_flags first_flag far_flag is_flag position far_count",
    "algebra/elements.py": "MAX_PARTS Element t_element unit_element letter_element back_of product_along",
    "ones/polys.py": "MAX_UNDER p_poly p_row p_by_bar mu c_element",
    "ones/matchings.py": """MAX_MATCHED MAX_LISTED matching is_matching all_matchings letter_matching r_of_lot p_of_lot
        r_by_matching_of_lot""",
    "ones/masks.py": """MAX_MASKED masks first_mask made_by defect mask_poly mask_row letters_product strict_masks r_by_masks
        is_tight tight_paper is_tight_paper""",
    "sheaf/webs.py": "MAX_WEB MAX_SECTIONS web_ties makers section_number led_row is_section",
    "rows/rows.py": """MOST_PLACES MOST_SIGNED row_of word_of signed_row_of word_of_signed corner is_corner pattern_places
        is_pattern_places""",
    "rows/tables.py": "bumped row_of_tables is_table all_tables",
    "ones/smooth.py": "mirrors_at is_smooth smooth_paper is_smooth_paper worst_members row_paper is_row_paper",
    "cells/cells.py": "MAX_MEMBERS MAX_TRIED c_product mu_ties left_cells cell_table greatest_power turned_poly",
    "loose/loose.py": "is_loose loose_paper is_loose_paper heap_of readings loose_members loose_of_length",
    "cosets/cosets.py": "KINDS is_least least_in split coset greatest_in least_members coset_r coset_p",
    "endless/windows.py": """is_window window_length window_of word_of_window window_product corner_number window_corner
        is_window_corner""",
    "endless/numbers.py": "is_endless degrees greatest_length length_numbers numbers_by_letters least_numbers",
    "text/texts.py": "write read",
    "desk/desk.py": "MAX_NAME MAX_SAID Desk",
    "loose/diagrams.py": """is_diagram all_diagrams letter_diagram diagram_product diagram_of loose_of_diagram loose_image
        loose_product""",
}
CLASSES = {
    "Gold": """__init__ whole part norm sense is_less __add__ __sub__ __mul__ __neg__ __eq__ __bool__ __str__""",
    "Poly": """__init__ read coefficients lowest degree is_alike_turned at raised turned moved value_at __add__ __sub__ __mul__
        __neg__ __eq__ __bool__ __len__ __str__""",
    "System": "__init__ rows signed polygon twenty ring letters bonds bond_of __eq__ __str__",
    "Lot": "__init__ ranks covers below above leads between __eq__ __len__ __str__",
    "Desk": """__init__ system kept sayings past do say unsay is_true undo twin __contains__ __getitem__ __len__ __iter__ __eq__
        __str__""",
    "Element": "__init__ system entries poly_of bar undone times __add__ __sub__ __mul__ __len__ __bool__ __eq__ __str__",
}
# The parameters of functions whose names and defaults the document tells.
KEYWORDS = {
    ("ones/matchings.py", "letter_matching"): "system, word, letter, *, right=False",
    ("cosets/cosets.py", "coset_r"): "system, one, other, letters, *, kind='q'",
    ("cosets/cosets.py", "coset_p"): "system, one, other, letters, *, kind='q'",
}
# The packages' own names that nothing else of the package may have, where a class can be indexed.
GUARDED = ("(type)", "Meta", "metaclass=")


def parsed(path):
    return ast.parse(path.read_text(encoding="utf-8"))


def module_name(path):
    parts = path.relative_to(ROOT).with_suffix("").parts
    return ".".join(parts[:-1] if parts[-1] == "__init__" else parts)


def docstrings(tree):
    kinds = (ast.Module, ast.ClassDef, ast.FunctionDef)
    return {id(node.body[0].value) for node in ast.walk(tree) if isinstance(node, kinds) and node.body
            and isinstance(node.body[0], ast.Expr) and isinstance(node.body[0].value, ast.Constant)}


def bound_names(tree):
    for node in ast.walk(tree):
        if isinstance(node, ast.Name) and isinstance(node.ctx, ast.Store):
            yield node.id
        elif isinstance(node, ast.arg):
            yield node.arg
        elif isinstance(node, (ast.FunctionDef, ast.ClassDef)):
            yield node.name


class LanguageTest(unittest.TestCase):
    def each(self):
        for path in FILES:
            yield path, path.read_text(encoding="utf-8"), parsed(path)

    def test_files(self):
        self.assertLessEqual(len(FILES), 100)
        for path in PACKAGE.rglob("*"):
            if "__pycache__" not in path.parts:
                self.assertTrue(path.is_dir() or re.fullmatch(r"[a-z0-9_]+\.py", path.name), path)
                self.assertTrue(path.is_file() or (path / "__init__.py").is_file(), path)

    def test_characters_and_sizes(self):
        for path, text, tree in self.each():
            self.assertTrue(all(sign == "\n" or " " <= sign <= "~" for sign in text))
            rows = text.split("\n")
            self.assertLessEqual(len(rows), 400)
            self.assertLessEqual(max(map(len, rows)), 120)
            for node in ast.walk(tree):
                if isinstance(node, ast.FunctionDef):
                    self.assertLessEqual(node.end_lineno - node.lineno + 1, 40, node.name)

    def test_module_level(self):
        for path, text, tree in self.each():
            for at, node in enumerate(tree.body):
                if isinstance(node, ast.Assign):
                    self.assertEqual([type(target) for target in node.targets], [ast.Name])
                    ast.literal_eval(node.value)
                elif isinstance(node, ast.Expr):
                    self.assertEqual((at, type(node.value)), (0, ast.Constant))
                else:
                    self.assertIsInstance(node, (ast.ImportFrom, ast.FunctionDef, ast.ClassDef))

    def test_imports(self):
        graph = {}
        for path, text, tree in self.each():
            graph[module_name(path)] = found = []
            for node in ast.walk(tree):
                if isinstance(node, ast.ImportFrom) and node.module == "math":
                    self.assertIn(node, tree.body)
                    self.assertLessEqual({alias.name for alias in node.names}, LIBRARY)
                    self.assertTrue(all(alias.asname is None for alias in node.names))
                elif isinstance(node, ast.ImportFrom):
                    self.assertIn(node, tree.body)
                    self.assertEqual((node.level, node.module.split(".")[0]), (0, "underwords"))
                    target = ROOT / (node.module.replace(".", "/") + ".py")
                    names = {name for child in parsed(target).body for name in bound_names(child)}
                    for alias in node.names:
                        self.assertIsNone(alias.asname)
                        self.assertIn(alias.name, names)
                        self.assertGreater(len(re.findall(rf"\b{alias.name}\b", text)), 1, alias.name)
                    found.append(node.module)
        done = []
        while len(done) < len(graph):
            ready = [name for name in graph if name not in done and all(other in done for other in graph[name])]
            self.assertTrue(ready, "files that import each other")
            done.extend(ready)

    def test_names(self):
        everything = set(dir(builtins))
        for path, text, tree in self.each():
            classes = {node.name for node in tree.body if isinstance(node, ast.ClassDef)}
            imported = {alias.name for node in tree.body if isinstance(node, ast.ImportFrom) for alias in node.names}
            methods = {item for node in ast.walk(tree) if isinstance(node, ast.ClassDef) for item in node.body}
            own = [name for node in ast.walk(tree) if node not in methods for name in bound_names_of(node)]
            for name in own:
                self.assertNotIn(name, everything)
                self.assertNotIn(name, BARRED)
                self.assertTrue(name == "_" or re.fullmatch(r"_?[A-Za-z][A-Za-z0-9_]*", name), name)
            stored = [node.id for node in ast.walk(tree) if isinstance(node, ast.Name) and isinstance(node.ctx, ast.Store)]
            stored += [node.arg for node in ast.walk(tree) if isinstance(node, ast.arg)]
            self.assertFalse((classes | imported) & set(stored))
            for node in ast.walk(tree):
                if isinstance(node, ast.Name):
                    self.assertTrue(node.id not in everything or node.id in BUILTINS, node.id)
                    self.assertFalse(node.id == "_" and isinstance(node.ctx, ast.Load))
            for word in re.findall(r"\w+", text):
                self.assertFalse(word in WORDS or keyword.iskeyword(word) and word in ("async", "await"), word)

    def test_classes_and_methods(self):
        for path, text, tree in self.each():
            for node in ast.walk(tree):
                if isinstance(node, (ast.FunctionDef, ast.ClassDef)):
                    told = [ast.unparse(item) for item in node.decorator_list]
                    self.assertIn(told, ([], ["property"], ["classmethod"]))
                if isinstance(node, ast.FunctionDef) and node.name.startswith("__"):
                    self.assertIn(node.name, DUNDERS)
                    ends = [ast.unparse(item.value) for item in ast.walk(node) if isinstance(item, ast.Return) and item.value]
                    if node.name == "__len__":
                        self.assertTrue(all(end.startswith("len(") for end in ends), ends)
                    if node.name == "__str__":
                        self.assertTrue(all(end.startswith(("str(", "f'", "f\"")) for end in ends), ends)
                    if node.name == "__init__":
                        self.assertEqual(ends, [])

    def test_expressions(self):
        methods = set(METHODS)
        for path in FILES:
            methods.update(node.name for node in ast.walk(parsed(path)) if isinstance(node, ast.FunctionDef))
        for path, text, tree in self.each():
            told = docstrings(tree)
            for node in ast.walk(tree):
                self.assertNotIsInstance(node, REFUSED)
                if isinstance(node, ast.Constant):
                    self.assertNotIsInstance(node.value, (float, complex))
                    if isinstance(node.value, str) and id(node) not in told:
                        self.assertNotIn("%", node.value)
                if isinstance(node, ast.BinOp) and isinstance(node.op, ast.Pow):
                    self.assertTrue(isinstance(node.right, ast.Constant) and 0 <= node.right.value <= 64)
                if isinstance(node, ast.Compare) and any(isinstance(op, (ast.Is, ast.IsNot)) for op in node.ops):
                    self.assertEqual([item.value for item in node.comparators], [None])
                if isinstance(node, ast.Call):
                    self.check_call(node, methods)

    def check_call(self, node, methods):
        if isinstance(node.func, ast.Attribute):
            self.assertIn(node.func.attr, methods)
        elif isinstance(node.func, ast.Name) and node.func.id in EATERS:
            self.assertFalse(any(isinstance(item, ast.GeneratorExp) for item in node.args))
        self.assertIsInstance(node.func, (ast.Attribute, ast.Name))
        for item in node.args:
            if isinstance(item, ast.Starred):
                self.assertIsInstance(item.value, (ast.Name, ast.Attribute))
        self.assertFalse(any(item.arg is None for item in node.keywords))

    def test_ranges_and_views_are_iterated_at_once(self):
        told = "f(range(3))\nx = list(range(3))\nfor k in zip(a, b.items()): pass\nd.keys()\ng(1, enumerate(a))\n"
        self.assertEqual(sorted(unwalked(ast.parse(told))), ["d.keys()", "enumerate(a)", "range(3)"])
        for path, text, tree in self.each():
            self.assertEqual(unwalked(tree), [], path)

    def test_operators_and_properties_change_nothing(self):
        told = {}
        now = []
        for path, text, tree in self.each():
            for node in ast.walk(tree):
                if isinstance(node, ast.FunctionDef):
                    told.setdefault(node.name, []).append(node)
                    kinds = [ast.unparse(item) for item in node.decorator_list]
                    now.extend([node.name] if "property" in kinds or node.name.startswith("__") and node.name != "__init__" else [])
        reached = set()
        while now:
            name = now.pop()
            if name not in reached:
                reached.add(name)
                for node in told.get(name, []):
                    self.check_unchanging(node)
                    now.extend(called_names(node))
        self.assertLessEqual({"__add__", "entries", "parts_along", "put_ahead", "poly_text"}, reached)

    def check_unchanging(self, function):
        made = {target.id for node in ast.walk(function) if isinstance(node, ast.Assign) for target in node.targets
                if isinstance(target, ast.Name) and ast.unparse(node.value).startswith(MADE)}
        for node in ast.walk(function):
            self.assertNotIsInstance(node, (ast.Delete, ast.Yield, ast.Nonlocal, ast.Global))
            if isinstance(node, ast.AugAssign):
                self.assertTrue(isinstance(node.target, ast.Name) and isinstance(node.value, ast.Constant), ast.unparse(node))
            for target in node.targets if isinstance(node, ast.Assign) else ():
                if isinstance(target, (ast.Subscript, ast.Attribute)):
                    self.assertIn(ast.unparse(target.value), made, ast.unparse(node))
            if isinstance(node, ast.Call) and isinstance(node.func, ast.Attribute) and node.func.attr in CHANGING:
                self.assertIn(ast.unparse(node.func.value).split("[")[0], made, ast.unparse(node))

    def test_what_a_class_that_can_be_indexed_asks_for(self):
        for path, text, tree in self.each():
            self.assertFalse([word for word in GUARDED if word in text])
            for node in ast.walk(tree):
                if isinstance(node, ast.Call) and isinstance(node.func, ast.Name) and node.func.id == "reversed":
                    self.assertRegex(ast.unparse(node.args[0]), r"^(list|tuple|sorted|range)\(")
                if isinstance(node, ast.ClassDef):
                    methods = [item for item in node.body if isinstance(item, ast.FunctionDef)]
                    names = {item.name for item in methods}
                    self.assertTrue("__getitem__" not in names or "__iter__" in names)
                    for item in methods:
                        if item.name == "__iter__":
                            self.assertRegex(ast.unparse(item.body[-1]), r"^return iter\(self\.\w+\)$")
                            self.assertEqual(len(item.body), 1)

    def test_names_of_methods_and_attributes(self):
        decorated, plain, attributes = set(), set(), set()
        for path, text, tree in self.each():
            for node in ast.walk(tree):
                if isinstance(node, ast.ClassDef):
                    for item in node.body:
                        if isinstance(item, ast.FunctionDef):
                            (decorated if item.decorator_list else plain).add(item.name)
                if isinstance(node, ast.Attribute) and isinstance(node.ctx, ast.Store):
                    attributes.add(node.attr)
        self.assertFalse((decorated | plain) & attributes)
        self.assertFalse(decorated & plain)
        self.assertFalse(attributes & (METHODS - {"add", "discard"}))

    def test_interface(self):
        for place, names in INTERFACE.items():
            tree = parsed(PACKAGE / place)
            own = {name for node in tree.body for name in (
                [node.name] if isinstance(node, (ast.FunctionDef, ast.ClassDef)) else
                [target.id for target in node.targets] if isinstance(node, ast.Assign) else [])}
            for name in names.split():
                self.assertIn(name, own)
            for node in tree.body:
                if isinstance(node, ast.FunctionDef) and (place, node.name) in KEYWORDS:
                    self.assertEqual(ast.unparse(node.args), KEYWORDS[place, node.name])
                if isinstance(node, ast.ClassDef) and node.name in CLASSES:
                    methods = [item.name for item in node.body if isinstance(item, ast.FunctionDef)]
                    self.assertEqual(len(methods), len(set(methods)))
                    self.assertLessEqual(set(CLASSES[node.name].split()), set(methods))


def is_walked(node):
    """Whether the node is a range, a zip, a view or the like."""
    if not isinstance(node, ast.Call):
        return False
    if isinstance(node.func, ast.Attribute):
        return node.func.attr in VIEWS and not node.args
    return isinstance(node.func, ast.Name) and node.func.id in WALKED


def unwalked(tree):
    """The ranges, zips, views and the like that are not iterated at once."""
    places = set()
    for node in ast.walk(tree):
        if isinstance(node, (ast.For, ast.comprehension)):
            places.add(id(node.iter))
        if isinstance(node, ast.Call) and isinstance(node.func, ast.Name) and node.args:
            told = node.args if node.func.id == "zip" else node.args[:1]
            places.update(id(item) for item in told if node.func.id in WALKERS)
            places.update(id(item) for item in told if node.func.id in ("len", "reversed") and ast.unparse(item).startswith("range("))
        if isinstance(node, ast.Call) and isinstance(node.func, ast.Attribute) and node.func.attr == "join":
            places.update(id(item) for item in node.args)
        if isinstance(node, ast.Compare) and isinstance(node.ops[0], (ast.In, ast.NotIn)):
            places.update(id(item) for item in node.comparators if ast.unparse(item).startswith("range("))
    return [ast.unparse(node) for node in ast.walk(tree) if is_walked(node) and id(node) not in places]


def called_names(function):
    """The names of the functions and methods that a function calls."""
    calls = [node.func for node in ast.walk(function) if isinstance(node, ast.Call)]
    return [call.id if isinstance(call, ast.Name) else call.attr for call in calls]


def bound_names_of(node):
    """The names that one node binds by itself."""
    if isinstance(node, ast.Name) and isinstance(node.ctx, ast.Store):
        return [node.id]
    if isinstance(node, ast.arg):
        return [node.arg]
    return [node.name] if isinstance(node, (ast.FunctionDef, ast.ClassDef)) else []


if __name__ == "__main__":
    unittest.main()
