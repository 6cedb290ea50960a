"""Looks over the package for what is easily seen of the language's rules L1 to L28.

    python3 .ci/language.py FOLDER

prints a row FILE:LINE: RULE WORDS for each fault and ends with 1 where there is one.
It sees much, not all: that it finds nothing doesn't show that every rule is kept.
"""

import ast
import builtins
import pathlib
import re
import sys

ALLOWED = set(
    "len range enumerate zip min max sum abs sorted reversed int str bool bytes list tuple dict set frozenset "
    "isinstance ord repr any all divmod Exception ValueError TypeError KeyError IndexError LookupError "
    "ZeroDivisionError ArithmeticError OverflowError RuntimeError NotImplementedError AttributeError "
    "StopIteration".split()
)
METHODS = set(
    "append clear copy count endswith extend find get index insert isalnum isalpha isdigit islower isspace isupper "
    "items join keys ljust lower lstrip partition pop remove replace reverse rfind rjust rpartition rsplit rstrip "
    "setdefault split splitlines startswith strip update upper values zfill bit_length title capitalize swapcase "
    "casefold center expandtabs removeprefix removesuffix rindex isascii isdecimal isnumeric istitle isidentifier "
    "isprintable sort add discard encode decode hex fromhex to_bytes from_bytes translate maketrans".split()
)
PYTHONS_OWN = {name for kind in (str, int, list, dict, set, bytes) for name in dir(kind)}
NOT_METHODS = PYTHONS_OWN - METHODS | set("encode decode hex fromhex to_bytes from_bytes translate maketrans".split())
NOT_VALUES = PYTHONS_OWN - set("count index title find get join lower upper split strip copy add".split()) | {"args"}
SPECIAL = set("__init__ __eq__ __repr__ __str__ __len__".split())
NOT_NAMES = set(
    "register mro elements open input version_info with_traceback add_note attrgetter breakpoint builtins compile "
    "copyright credits delattr dir eval exec exit gc getattr globals hasattr help id importlib license locals "
    "methodcaller os quit setattr super type vars sys format format_map chr print".split()
)
NOT_WORDS = re.compile(
    r"\b(type|typing|typing_extensions|enum|Enum|IntEnum|StrEnum|Flag|IntFlag|Generic|Protocol|ABC|ABCMeta|namedtuple"
    r"|NamedTuple|TypedDict|TYPE_CHECKING|abstractmethod)\b|dataclass|overload|contextmanager"
)
NOT_NODES = {
    "With": "L6", "Match": "L6", "Global": "L6", "Nonlocal": "L6", "Yield": "L6", "YieldFrom": "L6",
    "AsyncFunctionDef": "L6", "AsyncFor": "L6", "AsyncWith": "L6", "Await": "L6", "TryStar": "L6",
    "NamedExpr": "L7", "GeneratorExp": "L7", "Div": "L7", "MatMult": "L7", "Import": "L16",
}
WALKED = set("zip enumerate reversed range".split())
WALKERS = set("list tuple dict sorted sum any all enumerate zip bytes min max join".split())
MOST_LINES = {"def": 40, "file": 400}
MOST_SIGNS = 120


class Faults:
    def __init__(self):
        self.rows = []

    def tell(self, path, line, rule, words):
        self.rows.append(f"{path}:{line}: {rule} {words}")


def with_parents(tree):
    """The tree's nodes, each with the one above it."""
    parents = {}
    for node in ast.walk(tree):
        for child in ast.iter_child_nodes(node):
            parents[child] = node
    return parents


def called_name(node):
    """How a call's callee is called, or None."""
    if not isinstance(node, ast.Call):
        return None
    return getattr(node.func, "id", getattr(node.func, "attr", None))


def bound_names(tree):
    """All names that the file binds anywhere, each with a line."""
    for node in ast.walk(tree):
        if isinstance(node, ast.Name) and not isinstance(node.ctx, ast.Load):
            yield node.id, node.lineno
        elif isinstance(node, (ast.FunctionDef, ast.ClassDef)):
            yield node.name, node.lineno
        elif isinstance(node, ast.arg):
            yield node.arg, node.lineno
        elif isinstance(node, ast.ExceptHandler) and node.name:
            yield node.name, node.lineno
        elif isinstance(node, ast.ImportFrom):
            for alias in node.names:
                yield alias.asname or alias.name, node.lineno


def look_at_text(path, text, faults):
    rows = text.split("\n")
    if len(rows) - 1 > MOST_LINES["file"]:
        faults.tell(path, 1, "L10", f"{len(rows) - 1} lines")
    for at, row in enumerate(rows, 1):
        if len(row) > MOST_SIGNS:
            faults.tell(path, at, "L10", f"{len(row)} signs in a line")
        if re.search(r"[^ -~]", row):
            faults.tell(path, at, "L14", "a sign that isn't from the blank to ~")
        word = NOT_WORDS.search(row)
        if word:
            faults.tell(path, at, "L17", f"the word {word.group()}")


def look_at_names(path, tree, faults):
    bound = dict(bound_names(tree))
    methods = {
        part for node in ast.walk(tree) if isinstance(node, ast.ClassDef) for part in node.body
        if isinstance(part, ast.FunctionDef)
    }
    free = {part.name for part in methods}
    for name, line in bound_names(tree):
        if name.startswith("_") and name not in SPECIAL | {"__all__", "__version__"}:
            faults.tell(path, line, "L12", f"the name {name}")
        if name in NOT_NAMES:
            faults.tell(path, line, "L17", f"the name {name}")
        elif hasattr(builtins, name) and name not in free:
            faults.tell(path, line, "L15", f"{name} is a name of Python's own")
    for node in ast.walk(tree):
        if isinstance(node, ast.Name) and node.id not in bound and node.id not in ALLOWED:
            faults.tell(path, node.lineno, "L8", f"the name {node.id}")
        if isinstance(node, ast.keyword) and node.arg in NOT_NAMES:
            faults.tell(path, node.value.lineno, "L17", f"the keyword {node.arg}")


def look_at_locals(path, tree, faults):
    """No parameter, local or def within a def is called like a class or an import of its file."""
    taken = {node.name for node in tree.body if isinstance(node, ast.ClassDef)}
    for node in tree.body:
        if isinstance(node, ast.ImportFrom):
            taken |= {alias.asname or alias.name for alias in node.names}
    for node in ast.walk(tree):
        if isinstance(node, ast.FunctionDef):
            for part in node.body:
                look_for_taken(path, part, taken, faults)
            look_for_taken(path, node.args, taken, faults)


def look_for_taken(path, part, taken, faults):
    for name, line in bound_names(part):
        if name in taken:
            faults.tell(path, line, "L15", f"{name} is a class or an import of this file")


def look_at_attributes(path, tree, own, faults):
    for node in ast.walk(tree):
        if isinstance(node, ast.Attribute) and node.attr not in METHODS | own | {"__init__"}:
            faults.tell(path, node.lineno, "L25", f"the method or value {node.attr}")


def look_at_imports(path, tree, package, tops, faults):
    drawn = []
    for node in ast.walk(tree):
        if not isinstance(node, ast.ImportFrom):
            continue
        if node not in tree.body:
            faults.tell(path, node.lineno, "L2", "an import that isn't at the top")
        if node.module == "__future__":
            continue
        parts = (node.module or "").split(".")
        if node.level or len(parts) != 2 or parts[0] != package or parts[1] not in tops:
            faults.tell(path, node.lineno, "L2", "an import from elsewhere than a file of the package")
            continue
        drawn.append(parts[1])
        for alias in node.names:
            if alias.name not in tops[parts[1]]:
                faults.tell(path, node.lineno, "L16", f"{alias.name} isn't defined in {node.module}")
    return drawn


def is_docstring(node):
    return isinstance(node, ast.Expr) and isinstance(node.value, ast.Constant) and isinstance(node.value.value, str)


def look_at_top(path, tree, faults):
    seen = set()
    for at, node in enumerate(tree.body):
        if isinstance(node, (ast.FunctionDef, ast.ClassDef)):
            names = [node.name]
        elif isinstance(node, ast.ImportFrom):
            names = [alias.asname or alias.name for alias in node.names]
        elif isinstance(node, ast.Assign) and len(node.targets) == 1 and isinstance(node.targets[0], ast.Name):
            names = [node.targets[0].id]
            look_at_top_value(path, node.value, faults)
        elif is_docstring(node) and at == 0:
            continue
        else:
            faults.tell(path, node.lineno, "L3", "a row that can't stand at a file's top")
            continue
        for name in names:
            if name in seen:
                faults.tell(path, node.lineno, "L15", f"{name} is bound twice")
            seen.add(name)


def look_at_top_value(path, value, faults):
    for node in ast.walk(value):
        if isinstance(node, (ast.Call, ast.Set, ast.ListComp, ast.SetComp, ast.DictComp, ast.Lambda)):
            faults.tell(path, node.lineno, "L3", "a value that isn't plain")
        if node is not value and isinstance(node, (ast.List, ast.Dict)):
            faults.tell(path, node.lineno, "L15", "a list or dict within a value of the top")


def look_at_defs(path, tree, faults):
    for node in ast.walk(tree):
        if isinstance(node, (ast.FunctionDef, ast.ClassDef)) and node.decorator_list:
            faults.tell(path, node.lineno, "L4", "a decorator")
        if isinstance(node, ast.FunctionDef):
            lines = node.end_lineno - node.lineno + 1
            if lines > MOST_LINES["def"]:
                faults.tell(path, node.lineno, "L10", f"{lines} lines in a function")
            if node.args.vararg or node.args.kwarg or node.args.posonlyargs:
                faults.tell(path, node.lineno, "L4", "parameters that aren't plain")
        if isinstance(node, ast.ClassDef):
            look_at_class(path, tree, node, faults)


def look_at_class(path, tree, node, faults):
    if node not in tree.body:
        faults.tell(path, node.lineno, "L15", "a class that isn't at the top")
    if len(node.bases) > 1 or node.keywords:
        faults.tell(path, node.lineno, "L5", "more than one base")
    for part in node.body:
        if not isinstance(part, (ast.FunctionDef, ast.Pass)) and not is_docstring(part):
            faults.tell(path, part.lineno, "L5", "a value in a class body")


def look_at_forms(path, tree, faults):
    parents = with_parents(tree)
    for node in ast.walk(tree):
        line = getattr(node, "lineno", getattr(parents.get(node), "lineno", 0))
        rule = NOT_NODES.get(node.__class__.__name__)
        if rule:
            faults.tell(path, line, rule, node.__class__.__name__)
        if isinstance(node, (ast.For, ast.While)) and node.orelse:
            faults.tell(path, line, "L6", "an else behind a loop")
        if isinstance(node, ast.Starred) and not isinstance(node.ctx, ast.Store):
            faults.tell(path, line, "L7", "a star that isn't in what is given")
        if isinstance(node, ast.Compare):
            look_at_is(path, node, faults)
        if isinstance(node, ast.ExceptHandler) and getattr(node.type, "id", None) in (None, "Exception", "TypeError"):
            if not isinstance(node.type, ast.Tuple) or not node.type.elts:
                faults.tell(path, line, "L19", "an except that takes too much")
        if isinstance(node, ast.BinOp) and isinstance(node.op, ast.Pow) and not isinstance(node.right, ast.Constant):
            faults.tell(path, line, "L27", "an exponent that isn't written")
        look_at_constant(path, node, line, faults)
        look_at_walk(path, node, parents.get(node), faults)
        look_at_set(path, node, parents, faults)


def look_at_is(path, node, faults):
    for op, right in zip(node.ops, node.comparators):
        if isinstance(op, (ast.Is, ast.IsNot)):
            if not isinstance(right, ast.Constant) or not any(right.value is it for it in (None, True, False)):
                faults.tell(path, node.lineno, "L20", "is beside something else than None, True, False")


def look_at_constant(path, node, line, faults):
    if not isinstance(node, ast.Constant):
        return
    if isinstance(node.value, (float, complex)):
        faults.tell(path, line, "L7", "a number that isn't whole")
    if isinstance(node.value, str) and "%" in node.value:
        faults.tell(path, line, "L27", "the percent sign in a text")


def look_at_walk(path, node, above, faults):
    """zip(..) and its like are walked where they stand."""
    name = called_name(node)
    lazy = name in WALKED and isinstance(node.func, ast.Name)
    if not lazy and not (name in ("items", "keys", "values") and isinstance(node.func, ast.Attribute)):
        return
    if isinstance(above, (ast.For, ast.comprehension)) and above.iter is node:
        return
    if called_name(above) in WALKERS or called_name(above) == "reversed" and name == "range":
        return
    if isinstance(above, ast.Compare) and isinstance(above.ops[0], (ast.In, ast.NotIn)):
        return
    faults.tell(path, node.lineno, "L23", f"{name} that isn't walked at once")


def look_at_set(path, node, parents, faults):
    """A set stands where it is asked, or is kept by a local."""
    made = called_name(node) == "set" and isinstance(node.func, ast.Name)
    if called_name(node) == "frozenset":
        faults.tell(path, node.lineno, "L24", "a frozenset")
    if not made and not isinstance(node, (ast.Set, ast.SetComp)):
        return
    above = parents[node]
    while isinstance(above, ast.BinOp):
        above = parents[above]
    kept = isinstance(above, ast.Assign) and above.value is node and isinstance(above.targets[0], ast.Name)
    if not kept and called_name(above) not in ("sorted", "len") and not isinstance(above, ast.Compare):
        faults.tell(path, node.lineno, "L24", "a set where none may stand")


def methods_in(tree):
    """What the file's classes call their methods, each with a line."""
    return [
        (part.name, part.lineno)
        for node in ast.walk(tree) if isinstance(node, ast.ClassDef)
        for part in node.body if isinstance(part, ast.FunctionDef)
    ]


def values_in(tree):
    """What the file calls the values that it gives to objects, each with a line."""
    return [
        (node.attr, node.lineno)
        for node in ast.walk(tree) if isinstance(node, ast.Attribute) and isinstance(node.ctx, ast.Store)
    ]


def look_at_own(path, tree, methods, faults):
    """The names of methods and values; methods: those of all the package."""
    for name, line in methods_in(tree):
        if name in NOT_METHODS - SPECIAL:
            faults.tell(path, line, "L26", f"the method {name}")
    for name, line in values_in(tree):
        if name in NOT_VALUES:
            faults.tell(path, line, "L26", f"the value {name}")
        if name in methods:
            faults.tell(path, line, "L18", f"{name} is a value here and a method, too")


def top_names(tree):
    names = set()
    for node in tree.body:
        if isinstance(node, (ast.FunctionDef, ast.ClassDef)):
            names.add(node.name)
        elif isinstance(node, ast.Assign):
            names |= {target.id for target in node.targets if isinstance(target, ast.Name)}
    return names


def look_for_rings(draws, faults):
    """No two files draw from one another, in however many steps."""
    for start in draws:
        seen = set()
        due = list(draws[start])
        while due:
            name = due.pop()
            if name not in seen:
                seen.add(name)
                due.extend(draws.get(name, []))
        if start in seen:
            faults.tell(start, 1, "L16", "the file draws from itself, in some steps")


def look_at_files(folder, faults):
    for path in sorted(folder.rglob("*")):
        if "__pycache__" in path.parts:
            continue
        if path.is_dir() or not re.fullmatch(r"(__init__|__main__|[a-z][a-z0-9_]*)\.py", path.name):
            faults.tell(path, 1, "L1", "something else than a file with a plain name")
    if not (folder / "__init__.py").is_file():
        faults.tell(folder, 1, "L14", "no __init__.py")


def look_over(texts, package):
    """The faults of files, given as a dict from their names without .py to their texts."""
    faults = Faults()
    trees = {name: ast.parse(text) for name, text in texts.items()}
    tops = {name: top_names(tree) for name, tree in trees.items()}
    methods = {name for tree in trees.values() for name, line in methods_in(tree)}
    own = methods | {name for tree in trees.values() for name, line in values_in(tree)}
    draws = {}
    for name, tree in trees.items():
        path = f"{package}/{name}.py"
        look_at_text(path, texts[name], faults)
        look_at_top(path, tree, faults)
        look_at_names(path, tree, faults)
        look_at_locals(path, tree, faults)
        look_at_attributes(path, tree, own, faults)
        look_at_own(path, tree, methods, faults)
        look_at_defs(path, tree, faults)
        look_at_forms(path, tree, faults)
        draws[name] = look_at_imports(path, tree, package, tops, faults)
    look_for_rings(draws, faults)
    return faults.rows


def main(folder):
    faults = Faults()
    look_at_files(folder, faults)
    texts = {path.stem: path.read_text(encoding="utf-8") for path in sorted(folder.glob("*.py"))}
    rows = faults.rows + look_over(texts, folder.name)
    for row in rows:
        print(row)
    print(f"{len(texts)} files looked over, {len(rows)} faults")
    return 1 if rows or not texts else 0


if __name__ == "__main__":
    sys.exit(main(pathlib.Path(sys.argv[1])))
