"""A look through the files of the package for what ../shared/LANGUAGE.md bars.

It does not know every rule: it holds those that are broken easily and seen plainly.
"""

import ast
import builtins
import pathlib
import re
import tokenize

PACKAGE = pathlib.Path(__file__).resolve().parent.parent / "cellbills"

BUILTINS = set(
    "len range enumerate zip min max sum abs sorted reversed int str bool bytes list tuple dict set"
    " frozenset isinstance ord repr any all divmod pow iter next map super property"
    " Exception ValueError TypeError KeyError IndexError LookupError ZeroDivisionError"
    " ArithmeticError OverflowError RuntimeError NotImplementedError AttributeError"
    " StopIteration NotImplemented".split())

METHODS = set(
    "append clear copy count endswith extend find get index insert isalnum isalpha isdigit islower"
    " isspace isupper items join keys ljust lower lstrip partition pop remove replace reverse rfind"
    " rjust rpartition rsplit rstrip setdefault split splitlines startswith strip update upper"
    " values zfill bit_length".split())

LIBRARY = {
    "heapq": {"heappush", "heappop", "heapify", "heapreplace", "heappushpop"},
    "math": {"gcd", "lcm", "isqrt", "comb", "perm", "factorial"},
    "itertools": {"product", "combinations", "permutations", "chain", "accumulate", "pairwise",
                  "islice", "zip_longest"},
    "collections": {"defaultdict"},
}

UNUSED_NAMES = set(
    "register mro elements open input law version_info with_traceback add_note attrgetter"
    " breakpoint builtins compile copyright credits delattr dir eval exec exit gc globals help id"
    " importlib license locals methodcaller os quit type vars sys _cold _record".split())

STRICT_NAMES = set("register mro elements open input law version_info with_traceback add_note".split())

UNUSED_WORDS = set(
    "typing typing_extensions enum Enum IntEnum StrEnum Flag IntFlag Generic Protocol ABC ABCMeta"
    " namedtuple NamedTuple TypedDict TYPE_CHECKING abstractmethod".split())

TAKEN_ATTRIBUTES = set(
    "items keys values pop update append clear extend insert remove reverse setdefault sort args"
    " encode decode hex fromhex format format_map mro real imag numerator denominator".split())

AT_ONCE = {"zip", "enumerate", "reversed", "map"}
TAKERS = {"list", "tuple", "dict", "sorted", "sum", "any", "all", "enumerate", "zip", "min", "max"}

STATEMENTS = (
    ast.Assign, ast.AugAssign, ast.AnnAssign, ast.If, ast.While, ast.For, ast.Return, ast.Break,
    ast.Continue, ast.Pass, ast.Raise, ast.Assert, ast.Delete, ast.Nonlocal, ast.With, ast.Try,
    ast.Expr, ast.FunctionDef, ast.ClassDef, ast.Import, ast.ImportFrom, ast.Match)


class File:
    """One file of the package."""

    def __init__(self, path):
        self.path = path
        self.name = path.relative_to(PACKAGE.parent).with_suffix("").as_posix().replace("/", ".")
        self.text = path.read_text(encoding="utf-8")
        self.tree = ast.parse(self.text)
        self.found = []
        self.parents = {}
        for node in ast.walk(self.tree):
            for child in ast.iter_child_nodes(node):
                self.parents[child] = node

    def tell(self, rule, line, why):
        self.found.append(f"{self.name}:{line}: {rule} {why}")

    def imports(self):
        return [node for node in self.tree.body if isinstance(node, ast.ImportFrom)]

    def functions(self):
        return [node for node in ast.walk(self.tree) if isinstance(node, ast.FunctionDef)]


def look_at_size(file):
    lines = file.text.split("\n")
    if len(lines) > 400:
        file.tell("L10", 1, "more than 399 lines")
    for number, line in enumerate(lines, 1):
        if len(line) > 120:
            file.tell("L10", number, "more than 120 characters")
        if re.search(r"[^ -~]", line):
            file.tell("L14", number, "a character that is none from the blank to ~")
    for node in file.functions():
        if node.end_lineno - node.lineno + 1 > 40:
            file.tell("L10", node.lineno, f"{node.name} has more than 40 lines")
        if node.decorator_list:
            for own in node.decorator_list:
                if ast.unparse(own) not in ("property", "staticmethod", "classmethod"):
                    file.tell("L4", node.lineno, "a decorator")


def look_at_imports(file, names):
    for node in ast.walk(file.tree):
        if isinstance(node, ast.Import):
            file.tell("L2", node.lineno, "an import of a module by its name")
        if not isinstance(node, ast.ImportFrom):
            continue
        if node.level or node not in file.tree.body:
            file.tell("L2", node.lineno, "an import that is no plain one at the top")
        told = [own.name for own in node.names]
        if any(own.asname for own in node.names):
            file.tell("L2", node.lineno, "as")
        if node.module in LIBRARY:
            if not set(told) <= LIBRARY[node.module]:
                file.tell("L2", node.lineno, "another word of the library")
        elif node.module not in names or not set(told) <= names[node.module]:
            file.tell("L16", node.lineno, "not the very file that defines the name")


def defined(tree):
    found = set()
    for node in tree.body:
        if isinstance(node, (ast.FunctionDef, ast.ClassDef)):
            found.add(node.name)
        if isinstance(node, ast.Assign):
            found.update(own.id for own in node.targets if isinstance(own, ast.Name))
    return found


def is_plain(node, known, deep=0):
    if isinstance(node, ast.Constant):
        return not isinstance(node.value, (float, complex)) and node.value is not Ellipsis
    if isinstance(node, (ast.List, ast.Dict)) and deep:
        return False
    if isinstance(node, (ast.List, ast.Tuple)):
        return all(is_plain(own, known, deep + 1) for own in node.elts)
    if isinstance(node, ast.Dict):
        return all(is_plain(own, known, deep + 1) for own in node.keys + node.values)
    if isinstance(node, ast.BinOp):
        return is_plain(node.left, known) and is_plain(node.right, known)
    if isinstance(node, ast.UnaryOp):
        return is_plain(node.operand, known)
    return isinstance(node, ast.Name) and node.id in known


def look_at_module_level(file):
    known, bound = set(), []
    for number, node in enumerate(file.tree.body):
        if isinstance(node, (ast.FunctionDef, ast.ClassDef)):
            bound.append(node.name)
            known.add(node.name)
        elif isinstance(node, ast.ImportFrom):
            bound.extend(own.name for own in node.names)
        elif isinstance(node, ast.Assign):
            if len(node.targets) != 1 or not isinstance(node.targets[0], ast.Name):
                file.tell("L3", node.lineno, "no single name")
            elif not is_plain(node.value, known):
                file.tell("L3", node.lineno, "no plain value")
            else:
                bound.append(node.targets[0].id)
                known.add(node.targets[0].id)
        elif not (number == 0 and isinstance(node, ast.Expr)):
            file.tell("L3", node.lineno, "a statement at module level")
    for name in sorted(set(bound)):
        if bound.count(name) > 1:
            file.tell("L15", 1, f"{name} is bound twice")


def bound_in(function):
    found = [own.arg for own in ast.walk(function) if isinstance(own, ast.arg)]
    for node in ast.walk(function):
        if isinstance(node, ast.Name) and isinstance(node.ctx, ast.Store):
            found.append(node.id)
        if isinstance(node, ast.ExceptHandler) and node.name:
            found.append(node.name)
    return found


def look_at_names(file):
    imported = {own.name for node in file.imports() for own in node.names}
    classes = {node.name for node in ast.walk(file.tree) if isinstance(node, ast.ClassDef)}
    for function in file.functions():
        for name in bound_in(function):
            if name in imported | classes:
                file.tell("L15", function.lineno, f"{name} is an import or a class")
            if hasattr(builtins, name):
                file.tell("L15", function.lineno, f"{name} is a builtin")
            if name in UNUSED_NAMES or name.startswith("__"):
                file.tell("L17", function.lineno, f"the name {name}")
    for name in defined(file.tree):
        if hasattr(builtins, name) or name in UNUSED_NAMES:
            file.tell("L15", 1, f"the name {name}")
    for node in ast.walk(file.tree):
        if isinstance(node, ast.Name) and isinstance(node.ctx, ast.Load):
            if node.id == "_":
                file.tell("L12", node.lineno, "_ is read")
            if hasattr(builtins, node.id) and node.id not in BUILTINS:
                file.tell("L8", node.lineno, f"the builtin {node.id}")
        if isinstance(node, ast.Attribute) and isinstance(node.ctx, ast.Store):
            if node.attr in TAKEN_ATTRIBUTES or node.attr in ("outcome", "place", "many"):
                file.tell("L26", node.lineno, f"the attribute {node.attr}")


def look_at_statements(file):
    for node in ast.walk(file.tree):
        if isinstance(node, ast.stmt) and not isinstance(node, STATEMENTS):
            file.tell("L6", node.lineno, f"a statement {type(node).__name__}")
        if isinstance(node, ast.Constant) and isinstance(node.value, float):
            file.tell("L7", node.lineno, "a float")
        if isinstance(node, (ast.BinOp, ast.AugAssign)) and isinstance(node.op, ast.Div):
            file.tell("L7", node.lineno, "a /")
        if isinstance(node, ast.GeneratorExp):
            file.tell("L7", node.lineno, "a generator expression; take a list")
        if isinstance(node, ast.Yield):
            # A statement of its own, in a loop of a method.
            around = file.parents[file.parents[node]]
            if not isinstance(file.parents[node], ast.Expr) or not isinstance(around, ast.For):
                file.tell("L23", node.lineno, "a yield that is no statement in a loop")
        if isinstance(node, (ast.YieldFrom, ast.Lambda, ast.Set, ast.SetComp)):
            file.tell("L23", node.lineno, f"{type(node).__name__}: look at the rules first")
        if isinstance(node, ast.Compare):
            for op, side in zip(node.ops, node.comparators):
                if isinstance(op, (ast.Is, ast.IsNot)) and not isinstance(side, ast.Constant):
                    file.tell("L20", node.lineno, "is")
        if isinstance(node, ast.arg) and node.annotation:
            file.tell("L21", node.lineno, "an annotation")


def look_at_calls(file, own_methods):
    for node in ast.walk(file.tree):
        if not isinstance(node, ast.Call):
            continue
        if isinstance(node.func, ast.Attribute):
            name = node.func.attr
            if name not in METHODS and name not in own_methods and name != "__init__":
                file.tell("L25", node.lineno, f"the method {name}")
            if name == "sort":
                file.tell("L25", node.lineno, "sort; take sorted")
        if isinstance(node.func, ast.Name) and node.func.id in AT_ONCE:
            parent = file.parents[node]
            taken = isinstance(parent, (ast.For, ast.comprehension)) or (
                isinstance(parent, ast.Call) and isinstance(parent.func, ast.Name)
                and parent.func.id in TAKERS)
            if not taken:
                file.tell("L23", node.lineno, f"{node.func.id} is not iterated at once")


def look_at_loops(file):
    """What a loop iterates over is not modified in it."""
    changing = {"append", "pop", "extend", "insert", "remove", "clear", "update", "setdefault"}
    for loop in ast.walk(file.tree):
        if not isinstance(loop, ast.For):
            continue
        over = {ast.unparse(node) for node in ast.walk(loop.iter)
                if isinstance(node, (ast.Name, ast.Attribute))}
        if isinstance(loop.iter, ast.Subscript) and isinstance(loop.iter.slice, ast.Slice):
            over = set()
        for node in [inner for row in loop.body for inner in ast.walk(row)]:
            if isinstance(node, ast.Call) and isinstance(node.func, ast.Attribute):
                if node.func.attr in changing and ast.unparse(node.func.value) in over:
                    file.tell("L23", node.lineno, "a change of what the loop iterates over")


def look_at_words(file):
    with tokenize.open(file.path) as lines:
        for token in tokenize.generate_tokens(lines.readline):
            if token.type == tokenize.COMMENT:
                continue
            for word in re.findall(r"\w+", token.string):
                documents = token.string.startswith('"""')
                if word in UNUSED_WORDS and not documents:
                    file.tell("L17", token.start[0], f"the word {word}")
            if token.type == tokenize.STRING and "%" in token.string:
                file.tell("L27", token.start[0], "a string with a per cent sign")


def look_at_cycles(files):
    uses = {file.name: [node.module for node in file.imports()] for file in files}
    left = dict(uses)
    while left:
        free = [name for name in left if not any(other in left for other in left[name])]
        if not free:
            return [f"L16 files import from each other: {sorted(left)}"]
        for name in free:
            del left[name]
    return []


def look_at_names_of_methods(files):
    """A name is either a method's or an attribute's; a property's is nobody else's."""
    methods, attributes, properties, found = {}, set(), set(), []
    for file in files:
        for node in ast.walk(file.tree):
            if isinstance(node, ast.FunctionDef) and isinstance(file.parents[node], ast.ClassDef):
                methods.setdefault(node.name, []).append(f"{file.name}:{node.lineno}")
                if any(ast.unparse(own) == "property" for own in node.decorator_list):
                    properties.add(node.name)
            if isinstance(node, ast.Attribute) and isinstance(node.ctx, ast.Store):
                attributes.add(node.attr)
            if isinstance(node, ast.FunctionDef) and node.name in UNUSED_NAMES:
                found.append(f"{file.name}:{node.lineno}: L17 the name {node.name}")
            if isinstance(node, ast.Attribute) and node.attr in STRICT_NAMES:
                found.append(f"{file.name}:{node.lineno}: L17 the attribute {node.attr}")
    for name, places in methods.items():
        if name in attributes or (name in properties and len(places) > 1):
            found.append(f"{places[0]}: L18 {name} is more than a method")
    return found


def broken_rules():
    """Return what was found, as a list of strings."""
    found = []
    for path in sorted(PACKAGE.rglob("*")):
        if "__pycache__" not in path.parts and path.suffix != ".py":
            found.append(f"L1 {path.name}")
    files = [File(path) for path in sorted(PACKAGE.rglob("*.py"))]
    names = {file.name: defined(file.tree) for file in files}
    own = {node.name for file in files for node in ast.walk(file.tree)
           if isinstance(node, ast.FunctionDef) and isinstance(file.parents[node], ast.ClassDef)}
    for file in files:
        look_at_size(file)
        look_at_imports(file, names)
        look_at_module_level(file)
        look_at_names(file)
        look_at_statements(file)
        look_at_calls(file, own)
        look_at_loops(file)
        look_at_words(file)
        found.extend(file.found)
    return found + look_at_cycles(files) + look_at_names_of_methods(files)
