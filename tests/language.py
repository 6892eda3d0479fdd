"""The rules of the language of the package, L1 to L28, as far as they can be read off one file after another.

Each rule is a function that returns complaints, tuples of the rule's number and a line, for the tree and text of a file.
"""

import ast
import builtins
import keyword

PACKAGE = "hourrings"

LIBRARY = {
    "heapq": {"heappush", "heappop", "heapify", "heapreplace", "heappushpop"},
    "math": {"gcd", "lcm", "isqrt", "comb", "perm", "factorial"},
    "itertools": {"product", "combinations", "permutations", "chain", "accumulate", "pairwise", "islice",
                  "zip_longest"},
    "collections": {"defaultdict"},
    "__future__": {"annotations"},
}
BUILTINS = set("""len range enumerate zip min max sum abs sorted reversed int str bool bytes list tuple dict set frozenset
isinstance ord repr any all divmod pow getattr hasattr setattr iter next map super property staticmethod classmethod
Exception ValueError TypeError KeyError IndexError LookupError ZeroDivisionError ArithmeticError OverflowError
RuntimeError NotImplementedError AttributeError StopIteration NotImplemented""".split())
METHODS = set("""append clear copy count endswith extend find get index insert isalnum isalpha isdigit islower isspace
isupper items join keys ljust lower lstrip partition pop remove replace reverse rfind rjust rpartition rsplit rstrip
setdefault split splitlines startswith strip update upper values zfill bit_length title capitalize swapcase casefold
center expandtabs removeprefix removesuffix rindex isascii isdecimal isnumeric istitle isidentifier isprintable
translate maketrans format encode decode hex from_bytes sort add discard""".split())
FOREIGN = {name for kind in (str, int, list, dict, set, bytes, tuple) for name in dir(kind)} - METHODS
BARRED_NAMES = set("""register mro elements open input law version_info with_traceback add_note attrgetter breakpoint
builtins compile copyright credits delattr dir eval exec exit gc globals help id importlib license locals methodcaller os
quit type vars sys""".split())
BARRED_WORDS = set("""type typing typing_extensions enum Enum IntEnum StrEnum Flag IntFlag Generic Protocol ABC ABCMeta
namedtuple NamedTuple TypedDict TYPE_CHECKING abstractmethod""".split())
BARRED_STARTS = ("_wall", "_pe_", "_dcw_", "_enum_", "_cm_", "_twin_re_", "_lay_", "_law_", "_stub_", "_sre", "_WallAttr")
STATEMENTS = (ast.FunctionDef, ast.ClassDef, ast.Assign, ast.AugAssign, ast.AnnAssign, ast.If, ast.While, ast.For,
              ast.Return, ast.Break, ast.Continue, ast.Pass, ast.Raise, ast.Assert, ast.Delete, ast.Nonlocal, ast.Match,
              ast.With, ast.Try, ast.Expr, ast.ImportFrom)
DUNDERS = set("__init__ __eq__ __repr__ __str__ __len__ __enter__ __exit__ __call__ __iter__".split())
CAUGHT_FREELY = {"KeyError", "ZeroDivisionError", "StopIteration"}
AT_ONCE = {"enumerate", "reversed", "range", "zip"}
TAKE = {"list", "tuple", "dict", "sorted", "sum", "any", "all", "enumerate", "zip", "min", "max", "len"}


def parents(tree):
    return {child: node for node in ast.walk(tree) for child in ast.iter_child_nodes(node)}


def functions(tree):
    return [node for node in ast.walk(tree) if isinstance(node, ast.FunctionDef)]


def bound_names(node):
    """The names that are bound anywhere below: assigned, parameters, functions, classes and imports."""
    found = []
    for part in ast.walk(node):
        if isinstance(part, ast.Name) and not isinstance(part.ctx, ast.Load):
            found.append((part.id, part.lineno))
        elif isinstance(part, ast.arg):
            found.append((part.arg, part.lineno))
        elif isinstance(part, (ast.FunctionDef, ast.ClassDef)):
            found.append((part.name, part.lineno))
        elif isinstance(part, ast.ExceptHandler) and part.name:
            found.append((part.name, part.lineno))
    return found


def strings(tree):
    """The strings that are no docstrings."""
    docs = {id(node.body[0].value) for node in ast.walk(tree)
            if isinstance(node, (ast.Module, ast.FunctionDef, ast.ClassDef)) and ast.get_docstring(node) is not None}
    return [node for node in ast.walk(tree)
            if isinstance(node, ast.Constant) and isinstance(node.value, str) and id(node) not in docs]


def imports_rule(tree, text):
    for node in ast.walk(tree):
        if isinstance(node, ast.Import):
            yield "L2", node.lineno
        if isinstance(node, ast.ImportFrom):
            inner = node.module is not None and node.module.startswith(PACKAGE + ".") and node.level == 0
            names = {alias.name for alias in node.names}
            if not inner and not names <= LIBRARY.get(node.module, set()):
                yield "L2", node.lineno
            if "*" in names or any(alias.asname for alias in node.names) or node not in tree.body:
                yield "L2", node.lineno
    seen_other = False
    for node in tree.body:
        if isinstance(node, ast.ImportFrom) and seen_other:
            yield "L2", node.lineno
        seen_other = seen_other or not isinstance(node, (ast.ImportFrom, ast.Expr))


def module_level_rule(tree, text):
    for at, node in enumerate(tree.body):
        if isinstance(node, ast.Expr):
            if at > 0 or not isinstance(node.value, ast.Constant):
                yield "L3", node.lineno
        elif isinstance(node, ast.Assign):
            if len(node.targets) != 1 or not isinstance(node.targets[0], ast.Name):
                yield "L3", node.lineno
            for part in ast.walk(node.value):
                if isinstance(part, (ast.Call, ast.ListComp, ast.DictComp, ast.SetComp, ast.Lambda, ast.Set)):
                    yield "L3", node.lineno
                if part is not node.value and isinstance(part, (ast.List, ast.Dict)):
                    yield "L15", node.lineno
        elif not isinstance(node, (ast.ImportFrom, ast.FunctionDef, ast.ClassDef)):
            yield "L3", node.lineno


def statements_rule(tree, text):
    for node in ast.walk(tree):
        if isinstance(node, ast.stmt) and not isinstance(node, STATEMENTS):
            yield "L6", node.lineno
        if isinstance(node, (ast.FunctionDef, ast.ClassDef)) and node.decorator_list:
            yield "L4", node.lineno
        if isinstance(node, ast.Expr) and not isinstance(node.value, (ast.Call, ast.Constant, ast.Yield)):
            yield "L6", node.lineno
        if isinstance(node, (ast.Await, ast.NamedExpr)):
            yield "L7", node.lineno
        if isinstance(node, ast.BinOp) and isinstance(node.op, (ast.Div, ast.MatMult)):
            yield "L7", node.lineno
        if isinstance(node, ast.Constant) and isinstance(node.value, (float, complex)):
            yield "L7", node.lineno
        if isinstance(node, ast.BinOp) and isinstance(node.op, ast.Pow):
            if not isinstance(node.right, ast.Constant) or not 0 <= node.right.value <= 64:
                yield "L27", node.lineno


def classes_rule(tree, text):
    for node in ast.walk(tree):
        if not isinstance(node, ast.ClassDef):
            continue
        if node not in tree.body or node.keywords:
            yield "L15", node.lineno
        for part in node.body:
            if isinstance(part, ast.FunctionDef) and part.name.startswith("__") and part.name not in DUNDERS:
                yield "L5", part.lineno
            if isinstance(part, ast.FunctionDef) and part.name in FOREIGN - DUNDERS:
                yield "L26", part.lineno


def calls_rule(tree, text):
    bound = {name for name, _ in bound_names(tree)}
    for node in ast.walk(tree):
        if isinstance(node, ast.ImportFrom):
            bound |= {alias.name for alias in node.names}
    for node in ast.walk(tree):
        if isinstance(node, ast.Name) and hasattr(builtins, node.id) and node.id not in bound | BUILTINS:
            yield "L8", node.lineno
        if isinstance(node, ast.Attribute) and node.attr in FOREIGN - DUNDERS:
            yield "L25", node.lineno
        if isinstance(node, ast.Call) and isinstance(node.func, ast.Name) and node.keywords:
            if hasattr(builtins, node.func.id) and not {word.arg for word in node.keywords} <= {
                    "key", "reverse", "default", "start", "strict"}:
                yield "L22", node.lineno
        if isinstance(node, ast.Call) and isinstance(node.func, ast.Attribute) and node.func.attr == "sort":
            yield "L25", node.lineno


def sizes_rule(tree, text):
    rows = text.splitlines()
    if len(rows) > 399:
        yield "L10", 400
    for at, row in enumerate(rows, start=1):
        if len(row) > 120 or "\t" in row:
            yield "L10", at
        if any(not " " <= sign <= "~" for sign in row):
            yield "L14", at
    for node in functions(tree):
        if node.end_lineno - node.lineno + 1 > 40:
            yield "L10", node.lineno


def names_rule(tree, text):
    for name, at in bound_names(tree):
        if name.startswith("__") and name not in DUNDERS or name.startswith(BARRED_STARTS):
            yield "L12", at
        if name in BARRED_NAMES or keyword.issoftkeyword(name) and name != "_":
            yield "L17", at
        if hasattr(builtins, name) and name not in DUNDERS:
            yield "L15", at
    for node in ast.walk(tree):
        if isinstance(node, ast.Name) and node.id == "_" and isinstance(node.ctx, ast.Load):
            yield "L12", node.lineno
    for word in ("_wall", "_WallAttr", "dataclass", "overload", "contextmanager"):
        if word in text:
            yield "L12", 1


def bindings_rule(tree, text):
    top = []
    for node in tree.body:
        if isinstance(node, ast.ImportFrom):
            top += [(alias.name, node.lineno) for alias in node.names]
        elif isinstance(node, (ast.FunctionDef, ast.ClassDef)):
            top.append((node.name, node.lineno))
        elif isinstance(node, ast.Assign) and isinstance(node.targets[0], ast.Name):
            top.append((node.targets[0].id, node.lineno))
    names = [name for name, _ in top]
    for name, at in top:
        if names.count(name) > 1:
            yield "L15", at
    for node in functions(tree):
        for name, at in bound_names(node):
            if name != node.name and name in names:
                yield "L15", at


def strings_rule(tree, text):
    for node in strings(tree):
        value = node.value
        if any(sign < " " and sign != "\n" and sign != "\t" or sign > "~" for sign in value):
            yield "L27", node.lineno
        if value.endswith(("._", ".__")) or value.startswith("__") and value.endswith("__"):
            yield "L27", node.lineno
        if set(value.replace(".", " ").split()) & BARRED_WORDS - {"type"}:
            yield "L17", node.lineno
    for node in ast.walk(tree):
        if isinstance(node, ast.Constant) and isinstance(node.value, str) and "%" in node.value:
            yield "L27", node.lineno
        if isinstance(node, ast.Name) and node.id in BARRED_WORDS:
            yield "L17", node.lineno


def comparing_rule(tree, text):
    for node in ast.walk(tree):
        if isinstance(node, ast.Compare) and any(isinstance(op, (ast.Is, ast.IsNot)) for op in node.ops):
            if not isinstance(node.comparators[0], ast.Constant) or node.comparators[0].value not in (None, True, False):
                yield "L20", node.lineno


def errors_rule(tree, text):
    for node in ast.walk(tree):
        if isinstance(node, ast.Raise) and node.exc is not None:
            if not isinstance(node.exc, ast.Call) or not isinstance(node.exc.func, ast.Name):
                yield "L19", node.lineno
        if isinstance(node, ast.ExceptHandler):
            caught = node.elts if isinstance(node.type, ast.Tuple) else [node.type]
            for error in caught:
                if not isinstance(error, ast.Name):
                    yield "L19", node.lineno
                elif hasattr(builtins, error.id) and error.id not in CAUGHT_FREELY:
                    yield "L19", node.lineno


def sets_rule(tree, text):
    """Sets stand behind `in`, in `len` and in `sorted`, or are kept by a plain name."""
    above = parents(tree)
    for node in ast.walk(tree):
        made = isinstance(node, ast.Call) and isinstance(node.func, ast.Name) and node.func.id == "set"
        if not made and not isinstance(node, (ast.Set, ast.SetComp)):
            continue
        upper = above[node]
        fits = isinstance(upper, ast.Call) and isinstance(upper.func, ast.Name) and upper.func.id in ("len", "sorted")
        fits = fits or isinstance(upper, ast.Compare) or isinstance(upper, ast.Assign) and len(upper.targets) == 1
        if not fits:
            yield "L24", node.lineno


def iterated_rule(tree, text):
    """What is iterated at once is not kept, and what a loop goes over is not changed in it."""
    above = parents(tree)
    for node in ast.walk(tree):
        if isinstance(node, ast.GeneratorExp):
            # A class with its own == is to come: so these stand in lists everywhere.
            yield "L7", node.lineno
        if isinstance(node, ast.Call) and isinstance(node.func, ast.Name) and node.func.id in AT_ONCE:
            upper = above[node]
            taken = isinstance(upper, ast.Call) and isinstance(upper.func, ast.Name) and upper.func.id in TAKE
            if not taken and not isinstance(upper, (ast.For, ast.comprehension, ast.Compare)):
                yield "L23", node.lineno
        if isinstance(node, ast.For):
            for part in node.body:
                yield from changes(part, ast.dump(node.iter))


def changes(node, over):
    for part in ast.walk(node):
        if isinstance(part, ast.Call) and isinstance(part.func, ast.Attribute):
            if part.func.attr in ("append", "pop", "extend", "insert", "remove", "clear", "update", "setdefault"):
                if ast.dump(part.func.value) == over:
                    yield "L23", part.lineno
        if isinstance(part, ast.Subscript) and not isinstance(part.ctx, ast.Load) and ast.dump(part.value) == over:
            yield "L23", part.lineno


RULES = [imports_rule, module_level_rule, statements_rule, classes_rule, calls_rule, sizes_rule, names_rule,
         bindings_rule, strings_rule, comparing_rule, errors_rule, sets_rule, iterated_rule]


def complaints(text):
    tree = ast.parse(text)
    return sorted({complaint for rule in RULES for complaint in rule(tree, text)})
