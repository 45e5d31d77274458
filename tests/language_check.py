"""A strict reading of ../shared/LANGUAGE.md over the files of a package.

It allows less than LANGUAGE.md does: what the package has not needed so far is complained of, also where a
rule allows it under conditions. Whoever needs more of the language adds it here, with its conditions.
"""

import ast
import builtins
import re
import warnings

from tests.language_classes import (
    CHANGING, ERRORS, SPECIAL_METHODS, check_handler, check_lambda, check_special_method, check_with, properties_of,
)

PACKAGE = "oftenenough"
LIBRARY = {
    "heapq": {"heappush", "heappop", "heapify", "heapreplace", "heappushpop"},
    "math": {"gcd", "lcm", "isqrt", "comb", "perm", "factorial"},
    "itertools": {"product", "combinations", "permutations"},
}
PRODUCTS = LIBRARY["itertools"]
# Sets, bytes, iter, next, map and chr are left out: nothing needs them so far.
CALLED = {
    "len", "range", "enumerate", "zip", "min", "max", "sum", "abs", "sorted", "reversed", "int", "str", "bool",
    "list", "tuple", "dict", "isinstance", "ord", "repr", "any", "all", "divmod",
}
SHAPES = {"int", "str", "bool", "bytes", "list", "tuple", "dict"}
KEYWORDS = {"sorted": {"key", "reverse"}, "min": {"key", "default"}, "max": {"key", "default"}, "sum": {"start"},
            "enumerate": {"start"}, "zip": {"strict"}}
LAZY = {"zip", "enumerate", "reversed", "range"} | PRODUCTS
LAZY_METHODS = {"items", "keys", "values"}
TAKES_LAZY = {"list", "tuple", "dict", "sorted", "sum", "any", "all", "enumerate", "zip", "min", "max"}
METHODS = CHANGING | LAZY_METHODS | set(
    """copy count endswith find get index isalnum isalpha isdigit islower isspace isupper join ljust lower lstrip
    partition replace rfind rjust rpartition rsplit rstrip split splitlines startswith strip upper zfill
    bit_length""".split())
NO_ATTRIBUTES = CHANGING | LAZY_METHODS | {"sort", "args", "encode", "decode", "hex", "fromhex", "format", "format_map"}
BUILTINS = {name for name in dir(builtins) if not name.startswith("_")}
BARRED_NAMES = set(
    """register mro elements open input law version_info with_traceback add_note attrgetter breakpoint builtins
    compile copyright credits delattr dir eval exec exit gc getattr globals hasattr help id importlib license
    locals methodcaller os quit setattr super type vars sys property staticmethod classmethod
    _cold _tuplegetter _outside _record _written_out _member_names""".split())
BARRED_WORDS = set(
    """type typing typing_extensions enum Enum IntEnum StrEnum Flag IntFlag Generic Protocol ABC ABCMeta namedtuple
    NamedTuple TypedDict TYPE_CHECKING abstractmethod""".split())
BARRED_PARTS = ("dataclass", "overload", "contextmanager", "_wall", "_WallAttr")
NODES = tuple(
    getattr(ast, name) for name in
    """Module ImportFrom alias FunctionDef ClassDef arguments arg Return Assign AugAssign For While If Raise Assert
    Pass Break Continue Expr BoolOp BinOp UnaryOp IfExp Compare Call keyword Constant Attribute Subscript Slice
    Name List Tuple Dict ListComp DictComp comprehension expr_context boolop operator unaryop cmpop
    Try ExceptHandler With withitem Lambda""".split())
PLAIN = (ast.Constant, ast.List, ast.Tuple, ast.Dict, ast.BinOp, ast.UnaryOp, ast.operator, ast.unaryop,
         ast.expr_context, ast.Name)


def complaints(files):
    """Complaints, as (rule, file, line, why), about files: a dict of file names and texts."""
    trees, told = {}, []
    for name, text in files.items():
        told += text_complaints(name, text)
        with warnings.catch_warnings():
            warnings.simplefilter("error")
            try:
                trees[name] = ast.parse(text)
                compile(text, name, "exec")
            except (SyntaxError, SyntaxWarning, DeprecationWarning) as error:
                told.append(("L27", name, 0, str(error)))
    own = own_names(trees)
    for name, tree in trees.items():
        told += [(rule, name, line, why) for rule, line, why in tree_complaints(tree, own)]
    return told + import_complaints(trees)


def text_complaints(name, text):
    told = []
    if not re.fullmatch(r"[a-z_][a-z0-9_]*\.py", name) or re.match(r"(law_|test|site|conftest)", name):
        told.append(("L14", name, 0, "the file's name"))
    lines = text.split("\n")
    if len(lines) - 1 > 399:
        told.append(("L10", name, 400, "a long file"))
    for number, line in enumerate(lines, 1):
        if len(line) > 120:
            told.append(("L10", name, number, "a long line"))
        if not all(" " <= sign <= "~" for sign in line):
            told.append(("L14", name, number, "a strange character"))
        if any(part in line for part in BARRED_PARTS):
            told.append(("L17", name, number, "a barred word"))
        if re.search(r"\\(?![nt'\"])", line):
            told.append(("L27", name, number, "a backslash that is not used"))
    return told


def own_names(trees):
    """What the package itself defines: its functions and classes, its methods, and its attributes."""
    own = {"classes": set(), "errors": set(ERRORS), "methods": set(), "attributes": set(), "properties": set()}
    for tree in trees.values():
        for node in ast.walk(tree):
            if isinstance(node, ast.ClassDef):
                own["classes"].add(node.name)
                names = {item.name for item in node.body if isinstance(item, ast.FunctionDef)}
                own["methods"] |= names - properties_of(node)
                own["properties"] |= properties_of(node)
            if isinstance(node, ast.Attribute) and isinstance(node.ctx, ast.Store):
                own["attributes"].add(node.attr)
    # A base may stand in a later file: look until no class is added.
    for _ in trees:
        for tree in trees.values():
            for node in tree.body:
                if isinstance(node, ast.ClassDef) and {ast.unparse(base) for base in node.bases} & own["errors"]:
                    own["errors"].add(node.name)
    return own


def tree_complaints(tree, own):
    for node in ast.walk(tree):
        for child in ast.iter_child_nodes(node):
            child.above = node
    told = module_complaints(tree)
    for node in ast.walk(tree):
        if not isinstance(node, NODES):
            rule = "L6" if isinstance(node, ast.stmt) else "L7"
            told.append((rule, getattr(node, "lineno", 0), f"{type(node).__name__} is not among what is used"))
        for check in CHECKS:
            told += [(rule, getattr(node, "lineno", 0), why) for rule, why in check(node, own)]
    return told + name_complaints(tree)


def module_complaints(tree):
    told, names, imports_end = [], set(), False
    for at, node in enumerate(tree.body):
        is_import = isinstance(node, ast.ImportFrom)
        is_docstring = at == 0 and isinstance(node, ast.Expr) and isinstance(node.value, ast.Constant)
        imports_end = imports_end or not (is_import or is_docstring)
        if is_import and imports_end:
            told.append(("L2", node.lineno, "an import below other statements"))
        if isinstance(node, ast.Assign):
            if len(node.targets) != 1 or not isinstance(node.targets[0], ast.Name):
                told.append(("L3", node.lineno, "not one name"))
            read = {part.id for part in ast.walk(node.value) if isinstance(part, ast.Name)}
            if not all(isinstance(part, PLAIN) for part in ast.walk(node.value)) or read - names:
                told.append(("L3", node.lineno, "not a plain value"))
        elif not (is_import or is_docstring or isinstance(node, (ast.FunctionDef, ast.ClassDef))):
            told.append(("L3", node.lineno, "not at module level"))
        for name in bound_by(node):
            if name in names:
                told.append(("L15", node.lineno, f"{name} is bound twice"))
            names.add(name)
    return told


def bound_by(node):
    if isinstance(node, ast.ImportFrom):
        return [alias.asname or alias.name for alias in node.names]
    if isinstance(node, (ast.FunctionDef, ast.ClassDef)):
        return [node.name]
    if isinstance(node, ast.Assign):
        return [target.id for target in node.targets if isinstance(target, ast.Name)]
    return []


def check_import(node, own):
    if isinstance(node, ast.Import):
        yield "L2", "a module is imported as a name"
    if isinstance(node, ast.ImportFrom):
        names = {alias.name for alias in node.names}
        if node.level or any(alias.asname or alias.name == "*" for alias in node.names):
            yield "L2", "not by full names"
        if node.module not in LIBRARY and not (node.module or "").startswith(PACKAGE + "."):
            yield "L2", f"from {node.module}"
        if names - LIBRARY.get(node.module, names):
            yield "L2", f"{node.module} has other names that may be used"


def check_function(node, own):
    if isinstance(node, ast.FunctionDef):
        if node.end_lineno - node.lineno + 1 > 40:
            yield "L10", f"{node.name} is long"
        if node.decorator_list and node.name not in own["properties"]:
            yield "L4", f"{node.name} has a decorator"
        if not isinstance(node.above, (ast.Module, ast.ClassDef)):
            yield "L4", f"{node.name} is nested"
        given = node.args
        if given.vararg or given.kwarg or given.posonlyargs or given.kwonlyargs or given.defaults:
            yield "L4", f"{node.name} has other than plain parameters"
        if node.returns or any(each.annotation for each in given.args):
            yield "L21", f"{node.name} has annotations"
        in_class = isinstance(node.above, ast.ClassDef)
        if node.name.startswith("__") and not (in_class and node.name in SPECIAL_METHODS):
            yield "L5", f"{node.name} is not among the methods that are used"
        if in_class and node.name in CHANGING | LAZY_METHODS:
            yield "L26", f"{node.name} is a builtin value's method"
        if node.name == "__init__" and any(isinstance(part, ast.Return) for part in ast.walk(node)):
            yield "L28", "__init__ returns"


def check_class(node, own):
    if isinstance(node, ast.ClassDef):
        bases = [ast.unparse(base) for base in node.bases]
        if node.decorator_list or node.keywords or len(bases) > 1 or not isinstance(node.above, ast.Module):
            yield "L5", f"{node.name} is no plain class"
        if set(bases) - own["classes"] - own["errors"] or set(bases) & {"StopIteration", "AttributeError"}:
            yield "L18", f"{node.name} has a base that may not be one"
        methods = [item.name for item in node.body if isinstance(item, ast.FunctionDef)]
        if len(methods) != len(set(methods)):
            yield "L18", f"{node.name} defines a method twice"
        for at, item in enumerate(node.body):
            if not isinstance(item, ast.FunctionDef) and not (at == 0 and isinstance(item, ast.Expr)):
                yield "L5", f"{node.name} contains other than methods"


def check_statement(node, own):
    if isinstance(node, ast.Expr) and not isinstance(node.value, ast.Call):
        first = getattr(node.above, "body", [None])[0] is node
        if not (first and isinstance(node.value, ast.Constant) and isinstance(node.value.value, str)):
            yield "L6", "a value alone"
    if isinstance(node, ast.Raise):
        made = node.exc.func if isinstance(node.exc, ast.Call) else None
        if not isinstance(made, ast.Name) or made.id not in own["errors"] or node.cause:
            yield "L19", "an error is not created on the spot"
    if isinstance(node, ast.For):
        yield from changed_in_loop(node)


def changed_in_loop(loop):
    over = {part.id for part in ast.walk(loop.iter) if isinstance(part, ast.Name)}
    over |= {part.attr for part in ast.walk(loop.iter) if isinstance(part, ast.Attribute)}
    for row in loop.body:
        for part in ast.walk(row):
            kept = None
            if isinstance(part, ast.Call) and isinstance(part.func, ast.Attribute) and part.func.attr in CHANGING:
                kept = part.func.value
            if isinstance(part, ast.Subscript) and isinstance(part.ctx, ast.Store):
                kept = part.value
            if isinstance(part, ast.AugAssign):
                kept = part.target
            if getattr(kept, "id", getattr(kept, "attr", None)) in over:
                yield "L23", "the loop changes what it iterates over"


def check_constant(node, own):
    if isinstance(node, ast.Constant):
        value = node.value
        if not isinstance(value, (int, str)) and value is not None:
            yield "L7", f"{value!r} is no value that is used"
        if isinstance(value, int) and abs(value) >= 10 ** 900:
            yield "L27", "a long number"
        if isinstance(value, str):
            if "%" in value or value.endswith(("._", ".__")) or re.fullmatch(r"__.*__", value):
                yield "L27", f"{value!r} is no text that may stand"
            is_docstring = isinstance(node.above, ast.Expr)
            if not is_docstring and set(re.findall(r"\w+", value)) & BARRED_WORDS - {"type"}:
                yield "L17", f"a barred word in {value!r}"


def check_operator(node, own):
    if isinstance(node, ast.BinOp) or isinstance(node, ast.AugAssign):
        if isinstance(node.op, (ast.Div, ast.MatMult)):
            yield "L7", "an operator that is not used"
        if isinstance(node.op, ast.Pow):
            right = getattr(node, "right", None)
            if not isinstance(right, ast.Constant) or not isinstance(right.value, int) or not 0 <= right.value <= 64:
                yield "L27", "no literal exponent"
    if isinstance(node, ast.Compare):
        for sign, right in zip(node.ops, node.comparators):
            if isinstance(sign, (ast.Is, ast.IsNot)):
                if not isinstance(right, ast.Constant) or right.value not in (None, True, False):
                    yield "L20", "is with another value"


def check_call(node, own):
    if isinstance(node, ast.Call):
        name = getattr(node.func, "id", None)
        words = {word.arg for word in node.keywords}
        builtin = name in CALLED or name in own["errors"] & ERRORS or name in set().union(*LIBRARY.values())
        if builtin and words - KEYWORDS.get(name, set()) or "default" in words and len(node.args) != 1:
            yield "L22", f"{name} with a keyword"
        if None in words or words & {"self", "open", "input"}:
            yield "L22", "a keyword that is not used"
        if name == "isinstance":
            asked = node.args[1].elts if isinstance(node.args[1], ast.Tuple) else [node.args[1]]
            if {ast.unparse(each) for each in asked} - SHAPES - own["classes"]:
                yield "L22", "isinstance of something else"
        if isinstance(node.func, ast.Attribute):
            yield from method_call(node, own)
        elif name is None:
            yield "L7", "a call of something that has no name"
        if (name in LAZY or getattr(node.func, "attr", None) in LAZY_METHODS) and not is_iterated(node):
            yield "L23", f"{ast.unparse(node)} is not iterated at once"


def method_call(node, own):
    method = node.func.attr
    if ast.unparse(node.func.value) == "super()":
        if method != "__init__":
            yield "L5", "super for something else"
        if node.keywords or not all(isinstance(each, ast.Constant) for each in node.args):
            yield "L22", "an error is made with other than texts"
    elif method not in METHODS and method not in own["methods"] - set(SPECIAL_METHODS):
        yield "L25", f"{method} is no method that is used"
    elif method in METHODS and node.keywords:
        yield "L25", f"{method} with a keyword"


def is_iterated(node):
    above = node.above
    if isinstance(above, (ast.For, ast.comprehension)):
        return above.iter is node
    if isinstance(above, ast.Compare):
        return getattr(node.func, "id", None) == "range" and isinstance(above.ops[0], ast.In)
    if isinstance(above, ast.Call):
        name, inner = getattr(above.func, "id", None), getattr(node.func, "id", None)
        if name in PRODUCTS:
            return inner == "range"
        if inner == "range" and name in ("len", "reversed"):
            return True
        return name in TAKES_LAZY and node in above.args
    return False


def check_name(node, own):
    names = []
    if isinstance(node, ast.Name):
        names = [node.id] if isinstance(node.ctx, ast.Store) else []
    elif isinstance(node, (ast.FunctionDef, ast.ClassDef)):
        names = [node.name]
    elif isinstance(node, ast.arg):
        names = [node.arg]
    elif isinstance(node, ast.Attribute):
        names = [node.attr]
        if isinstance(node.ctx, ast.Store) and node.attr in NO_ATTRIBUTES | own["methods"] | own["properties"]:
            yield "L26", f"the attribute {node.attr}"
        if isinstance(node.ctx, ast.Load) and not isinstance(node.above, ast.Call):
            if node.attr not in own["attributes"] | own["properties"]:
                yield "L18", f"the attribute {node.attr} is never assigned"
    for name in names:
        if name not in SPECIAL_METHODS and not re.fullmatch(r"_?[A-Za-z][A-Za-z0-9_]*|_", name):
            yield "L12", f"the name {name}"
        if name in BARRED_NAMES | BARRED_WORDS or re.match(r"_(pe|dcw|enum|cm|twin_re|lay|law|stub)_|_sre", name):
            yield "L17", f"the name {name}"
        if name in BUILTINS and not isinstance(node, ast.Attribute):
            yield "L15", f"the name {name} is a builtin's"


CHECKS = (check_import, check_function, check_class, check_statement, check_constant, check_operator,
          check_call, check_name, check_special_method, check_handler, check_with, check_lambda)


def name_complaints(tree):
    """Each name that is read is bound in its function or its file, or is a builtin where it may stand."""
    told = []
    outer = {name for node in tree.body for name in bound_by(node)}
    taken = {name for node in tree.body if isinstance(node, (ast.ClassDef, ast.ImportFrom)) for name in bound_by(node)}
    for function in [node for node in ast.walk(tree) if isinstance(node, ast.FunctionDef)]:
        local = {part.arg for part in ast.walk(function) if isinstance(part, ast.arg)}
        local |= {part.id for part in ast.walk(function)
                  if isinstance(part, ast.Name) and isinstance(part.ctx, ast.Store)}
        if local & taken:
            told.append(("L15", function.lineno, f"{local & taken} names a class or an import"))
        for part in ast.walk(function):
            if isinstance(part, ast.Name) and isinstance(part.ctx, ast.Load) and part.id not in local | outer:
                told += builtin_complaints(part)
            if isinstance(part, ast.Name) and isinstance(part.ctx, ast.Load) and part.id == "_":
                told.append(("L12", part.lineno, "_ is read"))
    return told


def builtin_complaints(part):
    above = part.above
    if isinstance(above, ast.Call) and above.func is part and part.id in CALLED | ERRORS | {"super"}:
        return []
    if isinstance(above, ast.FunctionDef) and part in above.decorator_list and part.id == "property":
        return []
    in_shapes = above.above if isinstance(above, ast.Tuple) else above
    if isinstance(in_shapes, ast.Call) and getattr(in_shapes.func, "id", None) == "isinstance" and part.id in SHAPES:
        return []
    return [("L8", part.lineno, f"{part.id} is no name that may stand here")]


def import_complaints(trees):
    """Each import names the file that defines the name, and no two files import from each other."""
    told, below = [], {}
    for name, tree in trees.items():
        below[name] = set()
        for node in tree.body:
            if isinstance(node, ast.ImportFrom) and (node.module or "").startswith(PACKAGE + "."):
                source = node.module[len(PACKAGE) + 1:] + ".py"
                below[name].add(source)
                defined = [bound for item in trees[source].body if not isinstance(item, ast.ImportFrom)
                           for bound in bound_by(item)] if source in trees else []
                if not set(bound_by(node)) <= set(defined):
                    told.append(("L16", name, node.lineno, f"{source} does not define this"))
    for name in below:
        seen, next_ones = set(), set(below[name])
        while next_ones - seen:
            seen |= next_ones
            next_ones = {source for each in next_ones for source in below.get(each, ())}
        if name in seen:
            told.append(("L16", name, 0, "it imports from itself, through others"))
    return told
