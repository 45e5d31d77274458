"""What tests/language_check.py asks of properties, methods with two underscores, with, try and lambda."""

import ast

ERRORS = {
    "Exception", "ValueError", "TypeError", "KeyError", "IndexError", "LookupError", "ZeroDivisionError",
    "ArithmeticError", "OverflowError", "RuntimeError", "NotImplementedError",
}
CHANGING = {"append", "clear", "extend", "insert", "pop", "remove", "reverse", "setdefault", "update"}
BUILTIN_METHODS = {name for kind in (str, int, list, dict, set, bytes, tuple) for name in dir(kind)}
# The parameters of the methods with two underscores that are used; those of __init__ are free.
SPECIAL_METHODS = {"__init__": None, "__eq__": ["self", "other"], "__len__": ["self"], "__enter__": ["self"],
                   "__exit__": ["self", "kind", "value", "trace"]}
SPECIAL_METHODS_RULES = {"__eq__": "L28", "__len__": "L28", "__enter__": "L6", "__exit__": "L6"}


def properties_of(class_node):
    """The names of the methods with the decorator property, and no other one."""
    return {item.name for item in class_node.body if isinstance(item, ast.FunctionDef)
            and [ast.unparse(each) for each in item.decorator_list] == ["property"]}


def rows_of(function):
    """The statements of a function without its docstring."""
    first = function.body[0]
    is_docstring = isinstance(first, ast.Expr) and isinstance(first.value, ast.Constant)
    return function.body[1:] if is_docstring else function.body


def is_chain(node):
    """Whether an expression is a name, or an attribute of an attribute .. of a name."""
    while isinstance(node, ast.Attribute):
        node = node.value
    return isinstance(node, ast.Name)


def check_special_method(node, own):
    """Properties and methods with two underscores, each in the one form that is used."""
    if isinstance(node, ast.FunctionDef) and isinstance(node.above, ast.ClassDef):
        if node.decorator_list:
            yield from property_complaints(node, own)
        if SPECIAL_METHODS.get(node.name):
            rule, rows = SPECIAL_METHODS_RULES[node.name], rows_of(node)
            if [each.arg for each in node.args.args] != SPECIAL_METHODS[node.name]:
                yield rule, f"{node.name} has other parameters"
            if node.name in ("__eq__", "__len__"):
                if len(rows) != 1 or not isinstance(rows[0], ast.Return) or not is_told(node.name, rows[0].value):
                    yield rule, f"{node.name} is more than the one return"
            if node.name == "__exit__" and not all(is_restoring(row) for row in rows):
                yield rule, "__exit__ does more than assign attributes"


def property_complaints(function, own):
    """A property reads attributes, items and nothing else."""
    changes = (ast.Call, ast.Assign, ast.AugAssign, ast.Raise, ast.For, ast.While)
    if len(function.args.args) != 1 or any(isinstance(part, changes) for part in ast.walk(function)):
        yield "L5", f"the property {function.name} does more than read"
    if function.name in own["methods"] | own["attributes"] | BUILTIN_METHODS:
        yield "L5", f"the property {function.name} has the name of something else"


def is_told(name, value):
    """Whether __len__ returns a length, and __eq__ isinstance(other, C) and self.a == other.a and more of these."""
    if name == "__len__":
        return isinstance(value, ast.Call) and ast.unparse(value.func) == "len"
    if not isinstance(value, ast.BoolOp) or not isinstance(value.op, ast.And):
        return False
    first, *others = [ast.unparse(part) for part in value.values]
    names = [part.split(" == ")[0].removeprefix("self.") for part in others]
    return first.startswith("isinstance(other, ") and names != [] and all(
        part == f"self.{each} == other.{each}" and each.isidentifier() for part, each in zip(others, names))


def is_restoring(row):
    """Whether a statement assigns an attribute, a name or None to an attribute."""
    return (isinstance(row, ast.Assign) and len(row.targets) == 1 and isinstance(row.targets[0], ast.Attribute)
            and is_chain(row.targets[0]) and (is_chain(row.value) or ast.unparse(row.value) == "None")
            and not {part.id for part in ast.walk(row) if isinstance(part, ast.Name)} & {"kind", "value", "trace"})


def check_handler(node, own):
    """Only own errors are caught, by their names."""
    if isinstance(node, ast.Try) and (node.finalbody or node.orelse):
        yield "L6", "try with else or finally is not used"
    if isinstance(node, ast.ExceptHandler):
        told = node.type.elts if isinstance(node.type, ast.Tuple) else [node.type]
        if node.type is None or node.name or not told:
            yield "L6", "except without classes or with a name"
        elif not {ast.unparse(each) for each in told} <= own["errors"] - ERRORS:
            yield "L19", "except of what is no own error"


def check_with(node, own):
    """A with statement goes over one call, name or attribute, and gives a name."""
    if isinstance(node, ast.With):
        item = node.items[0]
        if len(node.items) > 1 or not (isinstance(item.context_expr, ast.Call) or is_chain(item.context_expr)):
            yield "L6", "with over something else"
        if not isinstance(item.optional_vars, (ast.Name, type(None))):
            yield "L6", "with that gives other than a name"


def check_lambda(node, own):
    """A lambda is a key that calls nothing but len."""
    if isinstance(node, ast.Lambda):
        above = node.above
        if not isinstance(above, ast.keyword) or above.arg != "key":
            yield "L4", "a lambda that is no key"
        if any(isinstance(part, ast.Call) and ast.unparse(part.func) != "len" for part in ast.walk(node)):
            yield "L5", "a key that calls something"
        if len(node.args.args) != 1 or node.args.defaults or node.args.vararg or node.args.kwarg:
            yield "L4", "a lambda with other than one parameter"
