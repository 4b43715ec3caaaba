"""A look at loops that change what they walk: rule L23 of the form.

A list may have several names in a function (`row = longer`), so names that are assigned one another
anywhere in it are taken for one list: the look goes rather too far than not far enough."""

import ast

CHANGING = ("append", "clear", "extend", "insert", "pop", "remove", "reverse", "setdefault", "sort", "update")
PUSHING = ("heappush", "heappop", "heapify", "heapreplace", "heappushpop")
THROUGH = ("enumerate", "zip", "reversed", "iter")
VIEWS = ("items", "keys", "values")
COMPREHENSIONS = (ast.ListComp, ast.SetComp, ast.DictComp, ast.GeneratorExp)


def loops_that_change(source):
    """The rows of all loops and comprehensions of a source that change what they walk, ascending."""
    rows = []
    for function in ast.walk(ast.parse(source)):
        if isinstance(function, ast.FunctionDef):
            names = same_names(function)
            for node in ast.walk(function):
                told = {name for walk in walks(node) for place in places(walk) for name in closed(names, place)}
                if told & changed(node):
                    rows.append(node.lineno)
    return sorted(set(rows))


def walks(node):
    """What a loop or a comprehension walks."""
    if isinstance(node, ast.For):
        return [node.iter]
    return [part.iter for part in node.generators] if isinstance(node, COMPREHENSIONS) else []


def places(value):
    """The names, attributes and items whose list a value is, or goes over."""
    if isinstance(value, (ast.Name, ast.Attribute, ast.Subscript)):
        return [] if is_slice(value) else [ast.unparse(value)]
    if isinstance(value, ast.IfExp):
        return places(value.body) + places(value.orelse)
    if isinstance(value, ast.BoolOp):
        return [place for part in value.values for place in places(part)]
    if isinstance(value, ast.NamedExpr):
        return places(value.target) + places(value.value)
    if isinstance(value, ast.Call) and isinstance(value.func, ast.Name) and value.func.id in THROUGH:
        return [place for part in value.args for place in places(part)]
    if isinstance(value, ast.Call) and isinstance(value.func, ast.Attribute) and value.func.attr in VIEWS:
        return places(value.func.value)
    return []


def is_slice(value):
    return isinstance(value, ast.Subscript) and isinstance(value.slice, ast.Slice)


def same_names(function):
    """Tuples of places that may be one list, as one is assigned to the other."""
    pairs = []
    for node in ast.walk(function):
        if isinstance(node, ast.Assign):
            for target in node.targets:
                pairs += pairs_of(target, node.value)
        elif isinstance(node, (ast.AnnAssign, ast.NamedExpr)) and node.value is not None:
            pairs += pairs_of(node.target, node.value)
    return pairs


def pairs_of(target, value):
    if isinstance(target, (ast.Tuple, ast.List)):
        if isinstance(value, (ast.Tuple, ast.List)) and len(value.elts) == len(target.elts):
            return [pair for both in zip(target.elts, value.elts) for pair in pairs_of(*both)]
        return []
    return [(ast.unparse(target), place) for place in places(value)]


def closed(pairs, place):
    """All places that may be the same list as one place."""
    found = {place}
    size = 0
    while size < len(found):
        size = len(found)
        found |= {name for pair in pairs if found & set(pair) for name in pair}
    return found


def changed(loop):
    """The places whose list is changed somewhere in a loop."""
    found = []
    for node in ast.walk(loop):
        if isinstance(node, ast.Call) and isinstance(node.func, ast.Attribute) and node.func.attr in CHANGING:
            found += places(node.func.value)
        elif isinstance(node, ast.Call) and isinstance(node.func, ast.Name) and node.func.id in PUSHING:
            found += places(node.args[0])
        elif isinstance(node, ast.AugAssign):
            found += places(node.target)
        elif isinstance(node, ast.Subscript) and isinstance(node.ctx, (ast.Store, ast.Del)):
            found += places(node.value)
    return set(found)
