"""The rules of the Python subset that are plainly seen in the files of the package."""

import ast
import os
import re
import unittest

ROOT = os.path.dirname(os.path.dirname(os.path.abspath(__file__)))
PACKAGE = os.path.join(ROOT, "leadsever")

INTERFACE = {
    "errors": ["LeadError", "BadRule", "BadTable", "BadDay", "BadPlace", "BadName", "UnknownName", "TakenName",
               "TakenPlace", "NotStanding", "Standing", "BadText", "BadCommand", "NotSafe"],
    "words": ["is_word", "is_address", "is_day", "begins", "rest_of", "address_key", "beginnings", "strange_word"],
    "tables": ["is_rule", "Table", "is_end", "answers_differ"],
    "trees": ["joints", "words_of", "turning", "turns"],
    "walks": ["walked", "is_round"],
    "servers": ["Server"],
    "heads": ["Heads", "unbounded", "lands", "leads_differ"],
    "heights": ["is_height_paper", "height_paper"],
    "sites": ["Site"],
    "heirs": ["claims_table", "heir", "fits", "address_of", "standing", "heirs_differ"],
    "safe": ["wrong_way", "is_wrong_way", "need_safe", "wrong_address"],
    "readers": ["Reader", "visits_for", "longer_walk"],
    "rights": ["is_right_paper", "right_paper"],
    "plans": ["first_unsafe", "longest", "free_from", "blamed"],
    "fewest": ["own_rules", "leads_claims", "fewest_table"],
    "makers": ["made_plan"],
    "texts": ["address_text", "rule_text", "table_text", "server_text", "site_text", "read_address", "read_rule", "read_table",
              "read_server", "read_site"],
    "console": ["Console"],
}
METHODS = {
    "Table": ["__init__", "rules", "__contains__", "__len__", "__eq__", "answer", "rule_for", "with_rule", "without"],
    "Server": ["__init__", "set_table", "days", "table", "answer", "kept", "sources", "copied", "__eq__", "drop_after"],
    "Heads": ["__init__", "joints", "words", "heads", "head", "answers", "back", "met", "is_bounded"],
    "Site": ["__init__", "put_page", "put_section", "move", "bring", "merge", "take", "names", "sort_of", "at", "last",
             "place_of", "claims", "events", "copied", "__eq__"],
    "Reader": ["__init__", "ask", "memory", "forget", "follow"],
    "Console": ["__init__", "__call__"],
}

LIBRARY = {
    "heapq": "heappush heappop heapify heapreplace heappushpop".split(),
    "math": "gcd lcm isqrt comb perm factorial".split(),
    "itertools": "product combinations permutations chain accumulate pairwise islice zip_longest".split(),
    "collections": ["defaultdict"],
}
BUILTINS = """len range enumerate zip min max sum abs sorted reversed int str bool bytes list tuple dict set frozenset
    isinstance ord repr any all divmod pow getattr hasattr setattr iter next map super property staticmethod
    classmethod Exception ValueError TypeError KeyError IndexError LookupError ZeroDivisionError ArithmeticError
    OverflowError RuntimeError NotImplementedError AttributeError StopIteration NotImplemented""".split()
BUILTIN_METHODS = """append clear copy count endswith extend find get index insert isalnum isalpha isdigit islower
    isspace isupper items join keys ljust lower lstrip partition pop remove replace reverse rfind rjust rpartition
    rsplit rstrip setdefault split splitlines startswith strip update upper values zfill bit_length title capitalize
    swapcase casefold center expandtabs removeprefix removesuffix rindex isascii isdecimal isnumeric istitle
    isidentifier isprintable add discard sort format encode decode hex""".split()
BARRED_WORDS = """typing typing_extensions enum Enum IntEnum StrEnum Flag IntFlag Generic Protocol ABC ABCMeta
    namedtuple NamedTuple TypedDict TYPE_CHECKING abstractmethod type""".split()
BARRED_NAMES = """register mro elements open input law version_info with_traceback add_note attrgetter breakpoint
    builtins compile copyright credits delattr dir eval exec exit gc globals help id importlib license locals
    methodcaller os quit type vars""".split()
# The last two rows are what LANGUAGE.md allows in some places alone, and this program does without.
BARRED_NODES = (ast.Global, ast.AsyncFunctionDef, ast.AsyncFor, ast.AsyncWith, ast.Await, ast.Div, ast.MatMult,
                ast.TryStar, ast.MatchMapping,
                ast.GeneratorExp, ast.Lambda, ast.Set, ast.SetComp, ast.Yield, ast.YieldFrom, ast.With, ast.Match,
                ast.NamedExpr, ast.Nonlocal, ast.Assert, ast.AnnAssign, ast.Pow)


def package_files():
    return sorted(name for name in os.listdir(PACKAGE) if name != "__pycache__")


def text_of(name):
    with open(os.path.join(PACKAGE, name), encoding="utf-8", newline="") as file:
        return file.read()


def tree_of(name):
    return ast.parse(text_of(name))


def defined(tree):
    return [node.name for node in tree.body if isinstance(node, (ast.FunctionDef, ast.ClassDef))]


def stars_in_indexes(tree):
    """The rows of the indexes that have a star anywhere within their brackets."""
    found = []
    for node in ast.walk(tree):
        if isinstance(node, ast.Subscript) and any(isinstance(part, ast.Starred) for part in ast.walk(node.slice)):
            found.append(node.lineno)
    return found


class Interface(unittest.TestCase):
    def test_each_name_is_defined_in_its_file(self):
        for module, names in INTERFACE.items():
            found = defined(tree_of(module + ".py"))
            for name in names:
                self.assertIn(name, found)

    def test_each_method_is_defined_in_its_class(self):
        found = {}
        for module in INTERFACE:
            for node in tree_of(module + ".py").body:
                if isinstance(node, ast.ClassDef):
                    found[node.name] = [part.name for part in node.body if isinstance(part, ast.FunctionDef)]
        for name, methods in METHODS.items():
            for method in methods:
                self.assertIn(method, found[name])


class Language(unittest.TestCase):
    def test_files(self):
        for name in package_files():
            self.assertRegex(name, r"^[a-z_]+\.py$")
        self.assertIn("__init__.py", package_files())

    def test_characters_and_sizes(self):
        for name in package_files():
            text = text_of(name)
            self.assertTrue(all(" " <= letter <= "~" or letter == "\n" for letter in text), name)
            self.assertLess(text.count("\n"), 400, name)
            self.assertTrue(all(len(line) <= 120 and line == line.rstrip() for line in text.split("\n")), name)
            for node in ast.walk(tree_of(name)):
                if isinstance(node, ast.FunctionDef):
                    self.assertLessEqual(node.end_lineno - node.lineno + 1, 40, node.name)

    def test_imports_name_the_file_that_defines_the_name(self):
        for name in package_files():
            for node in tree_of(name).body:
                if isinstance(node, ast.ImportFrom):
                    self.assertEqual(node.level, 0)
                    self.assertTrue(all(part.asname is None for part in node.names))
                    self.check_names(node.module, {part.name for part in node.names})

    def check_names(self, module, names):
        if module in LIBRARY:
            self.assertLessEqual(names, set(LIBRARY[module]))
            return
        top, file = module.split(".")
        self.assertEqual(top, "leadsever")
        tree = tree_of(file + ".py")
        values = [node.targets[0].id for node in tree.body if isinstance(node, ast.Assign)]
        self.assertLessEqual(names, set(defined(tree) + values))

    def test_each_name_is_bound_once(self):
        for name in package_files():
            tree = tree_of(name)
            taken = [part.name for node in tree.body if isinstance(node, ast.ImportFrom) for part in node.names]
            bound = defined(tree) + taken
            for node in tree.body:
                if isinstance(node, ast.Assign):
                    bound.extend(part.id for part in node.targets)
            self.assertEqual(len(bound), len(set(bound)), name)
            # A parameter may be called as a function of its file, not as a class or an import.
            taken.extend(node.name for node in tree.body if isinstance(node, ast.ClassDef))
            for node in ast.walk(tree):
                if isinstance(node, ast.arg):
                    self.assertNotIn(node.arg, taken, name)
                if isinstance(node, ast.Name) and isinstance(node.ctx, ast.Store):
                    self.assertNotIn(node.id, taken, name)

    def test_no_two_files_import_from_each_other(self):
        imports = {}
        for name in package_files():
            found = [node.module for node in tree_of(name).body if isinstance(node, ast.ImportFrom)]
            imports[name[:-3]] = {module.split(".")[1] for module in found if module not in LIBRARY}
        while imports:
            free = [name for name, others in imports.items() if not others & imports.keys()]
            self.assertTrue(free, imports)
            for name in free:
                del imports[name]

    def test_what_stands_at_module_level(self):
        for name in package_files():
            for at, node in enumerate(tree_of(name).body):
                allowed = (ast.ImportFrom, ast.FunctionDef, ast.ClassDef, ast.Assign)
                doc = at == 0 and isinstance(node, ast.Expr)
                self.assertTrue(doc or isinstance(node, allowed), name)

    def test_barred_words(self):
        for name in package_files():
            tree = tree_of(name)
            for node in ast.walk(tree):
                used = [getattr(node, field) for field in ("id", "attr", "arg", "name") if hasattr(node, field)]
                for word in used:
                    self.assertNotIn(word, BARRED_WORDS + BARRED_NAMES, name)
                    self.assertFalse(isinstance(word, str) and word.startswith("__") and not word.endswith("__"))

    def test_kinds_of_statements_and_values(self):
        for name in package_files():
            for node in ast.walk(tree_of(name)):
                self.assertNotIsInstance(node, BARRED_NODES, name)
                if isinstance(node, ast.Constant):
                    self.assertNotIsInstance(node.value, (float, complex))
                    if isinstance(node.value, str):
                        self.assertNotIn("%", node.value)
                        self.assertIsNone(re.search(r"\._?_$", node.value))
                if isinstance(node, ast.Compare):
                    for op, right in zip(node.ops, node.comparators):
                        if isinstance(op, (ast.Is, ast.IsNot)):
                            self.assertTrue(isinstance(right, ast.Constant) and right.value in (None, True, False))

    def test_no_star_in_an_index(self):
        for name in package_files():
            self.assertEqual(stars_in_indexes(tree_of(name)), [], name)

    def test_stars_in_indexes_are_found(self):
        for line in ("a[(*b, c)]", "a[(*b, c)] = d", "a[*b]", "del a[b, (*c,)]", "a[b][[*c][0]]", "a[f(*b)]", "a[1:g((*b, c))]",
                     "x = {b: a[0][(d, *c)] for b in e}", "a[[f(k) for k in (*b, c)]] += 1"):
            self.assertEqual(stars_in_indexes(ast.parse(line)), [1], line)
        for line in ("a = (*b, c)", "a[b] = (*c, d)", "f(*a[0])", "(*a[b], c)[0]", "first, *rest = a[0]", "[*a][0]", "{**a}[b]"):
            self.assertEqual(stars_in_indexes(ast.parse(line)), [], line)

    def test_builtins_and_methods(self):
        own = set()
        for name in package_files():
            own.update(node.name for node in ast.walk(tree_of(name)) if isinstance(node, ast.FunctionDef))
        builtin_names = set(dir(__import__("builtins")))
        for name in package_files():
            for node in ast.walk(tree_of(name)):
                if isinstance(node, ast.Name) and node.id in builtin_names:
                    self.assertIn(node.id, BUILTINS, name)
                    self.assertIsInstance(node.ctx, ast.Load)
                if isinstance(node, ast.arg):
                    self.assertNotIn(node.arg, builtin_names, name)
                if isinstance(node, ast.Call) and isinstance(node.func, ast.Attribute):
                    self.assertIn(node.func.attr, own | set(BUILTIN_METHODS), name)


if __name__ == "__main__":
    unittest.main()
