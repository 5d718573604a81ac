"""Checks the rules of ../shared/LANGUAGE.md that a script can see easily.

Use: python3 tools/rules.py FOLDER. Prints a line for each break of a rule, and
ends with 1 if there is one.
"""

import ast
import builtins
import os
import re
import sys

LIBRARY = {
    "heapq": {"heappush", "heappop", "heapify", "heapreplace", "heappushpop"},
    "math": {"gcd", "lcm", "isqrt", "comb", "perm", "factorial"},
    "itertools": {
        "product", "combinations", "permutations", "chain", "accumulate", "pairwise", "islice", "zip_longest"},
    "collections": {"defaultdict", "deque"},
    "__future__": {"annotations"},
}

BUILTINS = set("""
    len range enumerate zip min max sum abs sorted reversed int str bool list tuple dict set frozenset isinstance
    ord repr any all divmod pow getattr hasattr setattr map iter next type super property staticmethod classmethod
    object float Exception ValueError TypeError KeyError IndexError LookupError ZeroDivisionError ArithmeticError
    OverflowError RuntimeError NotImplementedError AttributeError StopIteration NotImplemented
""".split())

METHODS = set("""
    append clear copy count endswith extend find get index insert isalnum isalpha isdigit islower isspace isupper
    items join keys ljust lower lstrip partition pop remove replace reverse rfind rjust rpartition rsplit rstrip
    setdefault split splitlines startswith strip update upper values zfill bit_length
    title capitalize swapcase casefold center expandtabs removeprefix removesuffix rindex isascii isdecimal isnumeric
    istitle isidentifier isprintable translate maketrans sort add discard format encode decode hex
    appendleft popleft extendleft rotate
""".split())

NEVER = set("register mro elements open input law version_info with_traceback add_note".split())
FRAME = re.compile(r"^(f|tb|co|gi|cr|ag)_[a-z]+$")
NOT_BOUND = set("""
    attrgetter breakpoint builtins compile copyright credits delattr dir eval exec exit gc getattr globals hasattr help
    id importlib license locals methodcaller os quit setattr super type vars sys __name__
""".split())
WORDS = set("""
    type typing typing_extensions enum Enum IntEnum StrEnum Flag IntFlag Generic Protocol ABC ABCMeta namedtuple
    NamedTuple TypedDict TYPE_CHECKING abstractmethod
""".split())
PIECES = ("dataclass", "overload", "contextmanager")
BAD_STARTS = ("_wall", "_pe_", "_dcw_", "_enum_", "_cm_", "_twin_re_", "_lay_", "_law_", "_stub_", "_sre", "_WallAttr")
BAD_FILES = {"test", "tests", "testing", "site", "conftest", "sitecustomize", "usercustomize"}
CATCHABLE = {"KeyError", "ZeroDivisionError", "StopIteration", "ValueError", "LookupError", "IndexError"}
DUNDER_METHODS = set("""
    init eq repr str len enter exit call iter lt le gt ge ne add sub mul floordiv mod pow and or xor lshift rshift
    radd rsub rmul rfloordiv rmod rand ror rxor rlshift rrshift iadd isub imul ifloordiv imod ipow iand ior ixor
    ilshift irshift neg pos invert abs bool contains getitem setitem
""".split())
DECORATORS = {"property", "staticmethod", "classmethod"}
STATEMENTS = (
    ast.FunctionDef, ast.ClassDef, ast.Return, ast.Delete, ast.Assign, ast.AugAssign, ast.AnnAssign, ast.For, ast.While,
    ast.If, ast.With, ast.Match, ast.Raise, ast.Try, ast.Assert, ast.ImportFrom, ast.Import, ast.Nonlocal, ast.Global,
    ast.Expr, ast.Pass, ast.Break, ast.Continue)
LAZY = {"zip", "enumerate", "reversed", "map"}
EATERS = {"list", "tuple", "dict", "sorted", "sum", "any", "all", "min", "max", "enumerate", "zip"}


class Source:
    """A file of the package, read."""

    def __init__(self, folder, path):
        self.path = path
        self.short = os.path.relpath(path, os.path.dirname(os.path.abspath(folder)))
        with open(path, encoding="utf-8", newline="") as stream:
            self.text = stream.read()
        self.tree = ast.parse(self.text)
        self.parents = {}
        for node in ast.walk(self.tree):
            for child in ast.iter_child_nodes(node):
                self.parents[child] = node

    def module(self):
        """Returns the full name by which the file is imported."""
        name = self.short[:-len(".py")].replace(os.sep, ".")
        return name[:-len(".__init__")] if name.endswith(".__init__") else name

    def bound(self):
        """Returns the names that functions, classes and assignments of the file give at module level."""
        names = []
        for node in self.tree.body:
            if isinstance(node, (ast.FunctionDef, ast.ClassDef)):
                names.append(node.name)
            if isinstance(node, ast.Assign):
                names.extend([target.id for target in node.targets if isinstance(target, ast.Name)])
        return names


def sources_of(folder):
    """Returns the files of a package, read, in order."""
    paths = []
    for place, folders, files in os.walk(folder):
        folders[:] = sorted(name for name in folders if name != "__pycache__")
        paths.extend(os.path.join(place, name) for name in sorted(files) if name.endswith(".py"))
    return [Source(folder, path) for path in paths]


def problems_of(folder):
    """Returns all breaks of rules in a package, a line of text for each."""
    found = check_files(folder)
    sources = sources_of(folder)
    package = os.path.basename(os.path.abspath(folder))
    own = own_methods(sources)
    for source in sources:
        for check in (check_sizes, check_characters, check_module_level, check_names, check_words, check_builtins,
                      check_statements, check_values, check_lazy, check_errors):
            found.extend(told(source, check(source)))
        found.extend(told(source, check_methods(source, own)))
        found.extend(told(source, check_imports(source, sources, package)))
    return found + check_rings(sources)


def told(source, breaks):
    """Returns lines of text for triples of a rule, a line number and a text."""
    return [f"{rule} {source.short}:{line}: {text}" for rule, line, text in breaks]


def check_files(folder):
    """L1, L14: the names of files and folders."""
    found = []
    count = 0
    for place, folders, files in os.walk(folder):
        folders[:] = sorted(name for name in folders if name != "__pycache__")
        count += len(files)
        if "__init__.py" not in files:
            found.append(f"L14 {place}: no __init__.py")
        if "__main__.py" in files and place != folder:
            found.append(f"L14 {place}: __main__.py below the top")
        for name in files:
            stem = name[:-len(".py")]
            if not name.endswith(".py") or not re.fullmatch(r"[a-z_][a-z0-9_]*", stem):
                found.append(f"L1 {place}/{name}: no lower-case .py file")
            elif stem in BAD_FILES | WORDS or stem.startswith(("law_", "test_")) or stem in vars(builtins):
                found.append(f"L14 {place}/{name}: this name is not used")
            if stem in folders:
                found.append(f"L14 {place}/{name}: a folder beside it has this name")
    if count > 100:
        found.append(f"L14 {folder}: more than 100 files")
    return found


def check_sizes(source):
    """L10: lines and functions."""
    found = []
    lines = source.text.split("\n")
    if len(lines) - 1 > 399:
        found.append(("L10", len(lines), "more than 399 lines"))
    for at, line in enumerate(lines, 1):
        if len(line) > 120:
            found.append(("L10", at, "more than 120 characters"))
    for node in ast.walk(source.tree):
        if isinstance(node, ast.FunctionDef) and node.end_lineno - node.lineno + 1 > 40:
            found.append(("L10", node.lineno, f"{node.name} has more than 40 lines"))
    return found


def check_characters(source):
    """L14: the characters of a file."""
    found = []
    for at, line in enumerate(source.text.split("\n"), 1):
        if not all(" " <= sign <= "~" for sign in line):
            found.append(("L14", at, "a character that is not allowed"))
    return found


def check_module_level(source):
    """L3, L5, L15: what stands at module level."""
    found = []
    main = source.module().endswith(".__main__")
    for at, node in enumerate(source.tree.body):
        docstring = at == 0 and is_docstring(node)
        plain = isinstance(node, ast.Assign) and len(node.targets) == 1 and isinstance(node.targets[0], ast.Name)
        known = isinstance(node, (ast.Import, ast.ImportFrom, ast.FunctionDef, ast.ClassDef))
        if not (docstring or plain or known or main and isinstance(node, ast.If)):
            found.append(("L3", node.lineno, "this does not stand at module level"))
        if plain and any(isinstance(part, (ast.Call, ast.ListComp, ast.Set, ast.JoinedStr)) for part in ast.walk(node)):
            found.append(("L3", node.lineno, "this is no plain value"))
    names = source.bound() + [name for name, _ in imported(source)]
    for name in names:
        if names.count(name) > 1:
            found.append(("L15", 1, f"{name} is bound twice"))
    for node in ast.walk(source.tree):
        if isinstance(node, ast.ClassDef) and source.parents[node] is not source.tree:
            found.append(("L15", node.lineno, "a class stands at module level"))
        if isinstance(node, ast.ClassDef) and (node.decorator_list or node.keywords):
            found.append(("L5", node.lineno, "no decorator and no keyword over a class"))
    return found


def is_docstring(node):
    """Returns whether a statement is a string that stands alone."""
    return isinstance(node, ast.Expr) and isinstance(node.value, ast.Constant) and isinstance(node.value.value, str)


def imported(source):
    """Returns the pairs of an imported name and the line."""
    found = []
    for node in source.tree.body:
        if isinstance(node, (ast.Import, ast.ImportFrom)):
            found.extend((alias.asname or alias.name, node.lineno) for alias in node.names)
    return found


def check_imports(source, sources, package):
    """L2, L16: what is imported, and from where."""
    found = []
    by_module = {other.module(): other for other in sources}
    top = True
    for at, node in enumerate(source.tree.body):
        if not isinstance(node, (ast.Import, ast.ImportFrom)):
            top = top and at == 0 and is_docstring(node)
        elif not top:
            found.append(("L2", node.lineno, "an import that does not stand at the top"))
    for node in ast.walk(source.tree):
        if isinstance(node, (ast.Import, ast.ImportFrom)) and source.parents[node] is not source.tree:
            found.append(("L2", node.lineno, "an import within something"))
        if isinstance(node, ast.Import):
            if not source.module().endswith(".__main__") or [alias.name for alias in node.names] != ["sys"]:
                found.append(("L16", node.lineno, "an import without from"))
        elif isinstance(node, ast.ImportFrom):
            found.extend(import_breaks(node, by_module, package))
    return found


def import_breaks(node, by_module, package):
    """L2, L16: the breaks of one import with from."""
    found = []
    names = [alias.name for alias in node.names]
    if node.level or "*" in names:
        found.append(("L2", node.lineno, "a leading dot or a star"))
    elif node.module in LIBRARY:
        if not set(names) <= LIBRARY[node.module] or any(alias.asname for alias in node.names):
            found.append(("L2", node.lineno, "this is not imported from the library"))
    elif not node.module.startswith(package + ".") or node.module.endswith("__main__"):
        found.append(("L2", node.lineno, f"{node.module} is no module of the package"))
    elif node.module not in by_module:
        found.append(("L16", node.lineno, f"there is no {node.module}"))
    else:
        for name in names:
            if name not in by_module[node.module].bound():
                found.append(("L16", node.lineno, f"{node.module} does not define {name}"))
    return found


def check_rings(sources):
    """L16: no two files import from each other, directly or not."""
    below = {}
    for source in sources:
        below[source.module()] = [
            node.module for node in ast.walk(source.tree) if isinstance(node, ast.ImportFrom) and node.module]
    found = []
    for start in below:
        seen = set()
        ahead = list(below[start])
        while ahead:
            name = ahead.pop()
            if name not in seen:
                seen.add(name)
                ahead.extend(below.get(name, []))
        if start in seen:
            found.append(f"L16 {start}: it imports itself through other files")
    return found


def bindings(source):
    """Returns the pairs of a name that is bound anywhere and the node."""
    found = []
    for node in ast.walk(source.tree):
        if isinstance(node, ast.Name) and not isinstance(node.ctx, ast.Load):
            found.append((node.id, node))
        elif isinstance(node, ast.arg):
            found.append((node.arg, node))
        elif isinstance(node, (ast.FunctionDef, ast.ClassDef)):
            found.append((node.name, node))
        elif isinstance(node, ast.ExceptHandler) and node.name:
            found.append((node.name, node))
        elif isinstance(node, (ast.MatchAs, ast.MatchStar)) and node.name:
            found.append((node.name, node))
        elif isinstance(node, ast.alias):
            found.append((node.asname or node.name, node))
    return found


def used_names(source):
    """Returns the pairs of a name, attribute or keyword of any kind and its line."""
    found = [(name, node.lineno) for name, node in bindings(source)]
    for node in ast.walk(source.tree):
        if isinstance(node, ast.Name):
            found.append((node.id, node.lineno))
        elif isinstance(node, ast.Attribute):
            found.append((node.attr, node.lineno))
        elif isinstance(node, ast.keyword) and node.arg:
            found.append((node.arg, node.value.lineno))
    return found


def is_method(source, node):
    """Returns whether a node is a function that stands directly in a class."""
    return isinstance(node, ast.FunctionDef) and isinstance(source.parents[node], ast.ClassDef)


def check_names(source):
    """L8, L12, L15, L17: how things are called."""
    found = []
    taken = {name for name, _ in imported(source)}
    taken.update(node.name for node in source.tree.body if isinstance(node, ast.ClassDef))
    for name, line in used_names(source):
        if name in NEVER or FRAME.match(name):
            found.append(("L17", line, f"the name {name}"))
        if name.startswith(BAD_STARTS):
            found.append(("L12", line, f"the name {name}"))
        if not re.fullmatch(r"_|_?[A-Za-z][A-Za-z0-9_]*|__[a-z]+__", name):
            found.append(("L12", line, f"the name {name}"))
    for name, node in bindings(source):
        method = is_method(source, node)
        if name in NOT_BOUND:
            found.append(("L17", node.lineno, f"{name} is given a meaning"))
        elif hasattr(builtins, name) and (not method or name in BUILTINS):
            found.append(("L15", node.lineno, f"{name} is a builtin's name"))
        if name.startswith("__") and not (method and name.strip("_") in DUNDER_METHODS):
            found.append(("L8", node.lineno, f"the name {name}"))
        nested = isinstance(node, ast.FunctionDef) and source.parents[node] is not source.tree and not method
        if (nested or isinstance(node, (ast.arg, ast.Name))) and name in taken:
            found.append(("L15", node.lineno, f"{name} is a class or an import of this file"))
    for node in ast.walk(source.tree):
        if isinstance(node, ast.Name) and node.id == "_" and isinstance(node.ctx, ast.Load):
            found.append(("L12", node.lineno, "_ is read"))
    return found


def check_words(source):
    """L17, L27: words and signs in names and strings that are no docstrings."""
    found = []
    for node in ast.walk(source.tree):
        if isinstance(node, ast.Constant) and isinstance(node.value, str):
            if is_docstring(source.parents[node]):
                continue
            words = set(re.findall(r"\w+", node.value)) - {"type"}
            if words & WORDS or any(piece in node.value for piece in PIECES):
                found.append(("L17", node.lineno, "a word that does not stand in a string"))
            if "%" in node.value:
                found.append(("L27", node.lineno, "the character % in a string"))
    for name, line in used_names(source):
        if name in WORDS - {"type"} or any(piece in name for piece in PIECES):
            found.append(("L17", line, f"the name {name}"))
    return found


def check_builtins(source):
    """L8, L9, L22: which builtins are used, and with what."""
    found = []
    allowed = BUILTINS | ({"print"} if source.module().endswith(".__main__") else set())
    own = {name for name, _ in bindings(source)}
    for node in ast.walk(source.tree):
        if isinstance(node, ast.Name) and node.id not in own and hasattr(builtins, node.id):
            if node.id not in allowed:
                found.append(("L8", node.lineno, f"the builtin {node.id}"))
        if isinstance(node, ast.Call) and isinstance(node.func, ast.Name) and node.func.id in BUILTINS - own:
            keywords = {"sorted": {"key", "reverse"}, "min": {"key", "default"}, "max": {"key", "default"},
                        "sum": {"start"}, "enumerate": {"start"}, "zip": {"strict"}}
            if not {word.arg for word in node.keywords} <= keywords.get(node.func.id, set()):
                found.append(("L22", node.lineno, f"a keyword of {node.func.id}"))
    return found


def own_methods(sources):
    """Returns the names of all methods of the package, and of the attributes that it assigns."""
    names = set()
    for source in sources:
        for node in ast.walk(source.tree):
            if is_method(source, node):
                names.add(node.name)
            if isinstance(node, ast.Attribute) and isinstance(node.ctx, ast.Store):
                names.add(node.attr)
    return names


def check_methods(source, own):
    """L25: which methods are called."""
    found = []
    for node in ast.walk(source.tree):
        if isinstance(node, ast.Call) and isinstance(node.func, ast.Attribute):
            name = node.func.attr
            base = node.func.value
            above = isinstance(base, ast.Call) and isinstance(base.func, ast.Name) and base.func.id == "super"
            if name not in METHODS and name not in own and not (above and name == "__init__"):
                found.append(("L25", node.lineno, f"the method {name}"))
    return found


def check_statements(source):
    """L4, L5, L6: decorators and kinds of statements."""
    found = []
    for node in ast.walk(source.tree):
        if isinstance(node, ast.stmt) and not isinstance(node, STATEMENTS):
            found.append(("L6", node.lineno, "this statement"))
        if isinstance(node, (ast.AsyncFunctionDef, ast.Await, ast.AsyncFor, ast.AsyncWith)):
            found.append(("L6", node.lineno, "async"))
        if isinstance(node, ast.FunctionDef):
            for over in node.decorator_list:
                setter = isinstance(over, ast.Attribute) and over.attr == "setter"
                plain = isinstance(over, ast.Name) and over.id in DECORATORS
                if not is_method(source, node) or not (setter or plain):
                    found.append(("L4", node.lineno, "this decorator"))
    return found


def check_values(source):
    """L7, L11, L20, L27: values and signs."""
    found = []
    for node in ast.walk(source.tree):
        if isinstance(node, ast.Constant) and isinstance(node.value, (float, complex)):
            found.append(("L7", node.lineno, "a float"))
        if isinstance(node, (ast.BinOp, ast.AugAssign)) and isinstance(node.op, (ast.Div, ast.MatMult)):
            found.append(("L7", node.lineno, "the sign / or @"))
        if isinstance(node, (ast.BinOp, ast.AugAssign)) and isinstance(node.op, ast.Pow):
            exponent = node.right if isinstance(node, ast.BinOp) else node.value
            if not (isinstance(exponent, ast.Constant) and exponent.value in range(65)):
                found.append(("L27", node.lineno, "an exponent that is no literal from 0 to 64"))
        if isinstance(node, ast.Compare):
            for sign, side in zip(node.ops, node.comparators):
                plain = isinstance(side, ast.Constant) and (side.value is None or isinstance(side.value, bool))
                if isinstance(sign, (ast.Is, ast.IsNot)) and not plain:
                    found.append(("L20", node.lineno, "is beside something else than None, True or False"))
        if isinstance(node, ast.Set) and len(node.elts) > 2:
            found.append(("L13", node.lineno, "a literal set of more than two"))
        if isinstance(node, ast.Starred) and not isinstance(node.value, (ast.Name, ast.Attribute, ast.List, ast.Tuple)):
            found.append(("L7", node.lineno, "a star before something else than a name"))
    return found


def check_lazy(source):
    """L7, L23: zip, enumerate, reversed, map and generator expressions are iterated at once."""
    found = []
    for node in ast.walk(source.tree):
        named = isinstance(node, ast.Call) and isinstance(node.func, ast.Name) and node.func.id in LAZY
        if not (named or isinstance(node, ast.GeneratorExp)):
            continue
        over = source.parents[node]
        looped = isinstance(over, (ast.For, ast.comprehension)) and over.iter is node
        called = isinstance(over, ast.Call) and isinstance(over.func, ast.Name) and over.func.id in EATERS
        joined = isinstance(over, ast.Call) and isinstance(over.func, ast.Attribute) and over.func.attr == "join"
        if not (looped or called or joined):
            found.append(("L23", node.lineno, "this is not iterated at once"))
    return found


def check_errors(source):
    """L19: what is raised and caught."""
    found = []
    own = {name for name, _ in bindings(source)}
    for node in ast.walk(source.tree):
        if isinstance(node, ast.ExceptHandler):
            caught = node.type.elts if isinstance(node.type, ast.Tuple) else [node.type]
            for name in caught:
                if not isinstance(name, ast.Name) or (name.id not in own and name.id not in CATCHABLE):
                    found.append(("L19", node.lineno, "what is caught here"))
        if isinstance(node, ast.Raise) and node.exc is not None:
            if not isinstance(node.exc, ast.Call) or not isinstance(node.exc.func, ast.Name):
                found.append(("L19", node.lineno, "an error is created where it is raised"))
    return found


def main(arguments):
    """Checks the folders and returns the exit status."""
    found = [problem for folder in arguments for problem in problems_of(folder)]
    for problem in found:
        print(problem)
    return 1 if found else 0


if __name__ == "__main__":
    sys.exit(main(sys.argv[1:]))
