"""Rule L23 of the language, read off a tree: what is iterated at once stands nowhere else."""

import ast

MADE = ("range", "zip", "enumerate", "reversed")
VIEWS = ("items", "keys", "values")
TAKERS = ("list", "tuple", "dict", "sorted", "sum", "any", "all", "enumerate", "zip", "bytes")
TAKERS_OF_KEPT = ("list", "tuple", "sorted", "sum", "min", "max", "any", "all")
SCOPES = (ast.Module, ast.ClassDef, ast.FunctionDef, ast.Lambda, ast.GeneratorExp)


def kind_of(node):
    """Return which of those that are iterated at once a node makes; None for any other node."""
    if isinstance(node, ast.Call):
        if isinstance(node.func, ast.Name) and node.func.id in MADE:
            return node.func.id
        if isinstance(node.func, ast.Attribute) and node.func.attr in VIEWS:
            return node.func.attr
    return None


def parents_in(tree):
    return {child: node for node in ast.walk(tree) for child in ast.iter_child_nodes(node)}


def scope_of(node, parents):
    node = parents[node]
    while not isinstance(node, SCOPES):
        node = parents[node]
    return node


def taken_by(node, parent):
    """Return the name of the builtin that a node is the first argument of; None if there is none."""
    if isinstance(parent, ast.Call) and isinstance(parent.func, ast.Name) and parent.args[:1] == [node]:
        return parent.func.id
    return None


def is_looped_over(node, parent):
    return isinstance(parent, (ast.For, ast.comprehension)) and parent.iter is node


def is_alone(parent):
    """Tell whether a call has one argument, and beside it none but `default`."""
    return len(parent.args) == 1 and all(word.arg == "default" for word in parent.keywords)


def is_joined(node, parent):
    return (isinstance(parent, ast.Call) and isinstance(parent.func, ast.Attribute) and parent.func.attr == "join"
            and isinstance(parent.func.value, ast.Constant) and parent.args == [node])


def is_searched(node, parent):
    """Tell whether a node stands behind the one sign `in` or `not in`."""
    return isinstance(parent, ast.Compare) and isinstance(parent.ops[0], (ast.In, ast.NotIn)) and parent.comparators == [node]


def is_at_once(node, parent):
    """Tell whether what a call makes is iterated, measured or searched where it stands."""
    kind, taker = kind_of(node), taken_by(node, parent)
    if is_looped_over(node, parent) or taker in TAKERS or is_joined(node, parent):
        return True
    if taker in ("min", "max"):
        return is_alone(parent)
    if taker == "len":
        return kind == "range" or kind in VIEWS
    return kind == "range" and taker == "reversed" or kind in ("range", "keys") and is_searched(node, parent)


def is_read_well(kind, name, parents):
    """Tell whether a kept range or view is used where its name is read."""
    parent = parents[name]
    taker = taken_by(name, parent)
    if is_looped_over(name, parent) or is_searched(name, parent) or taker == "len":
        return True
    if taker in TAKERS_OF_KEPT:
        return taker not in ("min", "max") or is_alone(parent)
    if kind != "range":
        return False
    if isinstance(parent, ast.Subscript):
        return parent.value is name and isinstance(parent.ctx, ast.Load) and not isinstance(parent.slice, ast.Slice)
    within = kind_of(parent) in ("enumerate", "reversed", "zip") and name in parent.args
    return within and is_at_once(parent, parents[parent])


def is_kept_well(node, parents):
    """Tell whether a range or a view is kept in a plain local variable that is assigned once, and used as the rule says.

    A zip, enumerate or reversed may be kept, too, for one iteration: the package keeps none, and needs none.
    """
    kind, parent = kind_of(node), parents[node]
    if kind in ("zip", "enumerate", "reversed") or not isinstance(parent, ast.Assign) or len(parent.targets) > 1:
        return False
    scope, target = scope_of(node, parents), parent.targets[0]
    if not isinstance(scope, ast.FunctionDef) or not isinstance(target, ast.Name):
        return False
    if target.id in [one.arg for one in ast.walk(scope) if isinstance(one, ast.arg)]:
        return False
    others = [one for one in ast.walk(scope) if isinstance(one, ast.Name) and one.id == target.id and one is not target]
    return all(isinstance(one.ctx, ast.Load) and scope_of(one, parents) is scope and is_read_well(kind, one, parents)
               for one in others)


def rows_against_l23(text):
    """Return the ascending list of the numbers of the rows in which something is not iterated at once."""
    tree = ast.parse(text)
    parents = parents_in(tree)
    return sorted(node.lineno for node in ast.walk(tree) if kind_of(node) is not None
                  and not is_at_once(node, parents[node]) and not is_kept_well(node, parents))
