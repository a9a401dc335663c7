"""Holds the package's files against the rules of its language, as far as a rule can be seen in the file.

faults(path, text, own) tells what is amiss in one file, as a list of (rule, line, words); own is what
own_names(texts) gives of all files. import_faults(texts) looks at the imports between files.
"""

import ast
import builtins
import re

PACKAGE = "namepaths"

CALLED = set("""len range enumerate zip min max sum abs sorted reversed int str bool list tuple dict set frozenset
    isinstance ord repr any all divmod""".split())
ERRORS = set("""Exception ValueError TypeError KeyError IndexError LookupError ZeroDivisionError ArithmeticError
    OverflowError RuntimeError NotImplementedError AttributeError StopIteration""".split())
METHODS = set("""append clear copy count endswith extend find get index insert isalnum isalpha isdigit islower
    isspace isupper items join keys ljust lower lstrip partition pop remove replace reverse rfind rjust rpartition
    rsplit rstrip setdefault split splitlines startswith strip update upper values zfill bit_length""".split())
DOUBLE = {"__init__", "__eq__", "__repr__", "__str__", "__len__"}
NOWHERE = set("register mro elements open input version_info with_traceback add_note format format_map".split())
NOT_AS_NAMES = set("""attrgetter breakpoint builtins compile copyright credits delattr dir eval exec exit gc getattr
    globals hasattr help id importlib license locals methodcaller os quit setattr super type vars sys chr
    __name__""".split())
NO_WORDS = re.compile(r"\b(type|typing|typing_extensions|enum|Enum|IntEnum|StrEnum|Flag|IntFlag|Generic|Protocol|ABC"
                      r"|ABCMeta|namedtuple|NamedTuple|TypedDict|TYPE_CHECKING|abstractmethod)\b"
                      r"|dataclass|overload|contextmanager")
NO_VALUES = set("""items keys values pop update append clear extend insert remove reverse setdefault sort args encode
    format""".split())
FREE_VALUES = set("count index title find get join lower upper split strip copy add".split())
TAKEN = set().union(*[dir(kind) for kind in (str, int, list, dict, set, bytes)])
KEYWORDS = {"sorted": {"key", "reverse"}, "min": {"key", "default"}, "max": {"key", "default"},
            "sum": {"start"}, "enumerate": {"start"}, "zip": {"strict"}}
NODES = (
    ast.Module, ast.FunctionDef, ast.ClassDef, ast.Return, ast.Assign, ast.AugAssign, ast.For, ast.While, ast.If,
    ast.Raise, ast.Try, ast.ExceptHandler, ast.Expr, ast.Pass, ast.Break, ast.Continue, ast.ImportFrom, ast.alias,
    ast.boolop, ast.BoolOp, ast.BinOp, ast.operator, ast.UnaryOp, ast.unaryop, ast.Lambda, ast.IfExp, ast.Dict,
    ast.Set, ast.ListComp, ast.comprehension, ast.Compare, ast.cmpop, ast.Call, ast.keyword, ast.FormattedValue,
    ast.JoinedStr, ast.Constant, ast.Attribute, ast.Subscript, ast.Name, ast.List, ast.Tuple, ast.Slice,
    ast.expr_context, ast.arguments, ast.arg)
TOP_NODES = (ast.ImportFrom, ast.FunctionDef, ast.ClassDef, ast.Assign)


def own_names(texts):
    """What the files define: classes, methods, and values of objects, by name."""
    classes, methods, values = set(), set(), set()
    for text in texts.values():
        for node in ast.walk(ast.parse(text)):
            if isinstance(node, ast.ClassDef):
                classes.add(node.name)
                methods |= {part.name for part in node.body if isinstance(part, ast.FunctionDef)}
            if isinstance(node, ast.Attribute) and isinstance(node.ctx, ast.Store):
                values.add(node.attr)
    return {"classes": classes, "methods": methods, "values": values}


def faults(path, text, own):
    tree = ast.parse(text)
    for node in ast.walk(tree):
        for child in ast.iter_child_nodes(node):
            child.above = node
    found = file_faults(path, text) + top_faults(tree)
    for node in ast.walk(tree):
        for rule, words in node_faults(node, own):
            found.append((rule, getattr(node, "lineno", 0), words))
    found += [("L15", 0, f"{name} is called like a class or an import") for name in shadowed(tree)]
    return found


def file_faults(path, text):
    found = []
    lines = text.split("\n")
    if not re.fullmatch(r"(__init__|[a-z][a-z0-9_]*)\.py", path):
        found.append(("L1", 0, "a file's name"))
    if path[:-3] in dir(builtins) or path.startswith("test") or path in ("site.py", "conftest.py"):
        found.append(("L14", 0, "a file's name that is taken"))
    if len(lines) - 1 > 400:
        found.append(("L10", 400, "a file too long"))
    for number, line in enumerate(lines, start=1):
        if len(line) > 120:
            found.append(("L10", number, "a line too long"))
        if any(not " " <= sign <= "~" for sign in line):
            found.append(("L14", number, "a sign that is not used"))
        if NO_WORDS.search(line):
            found.append(("L17", number, "a word that stands nowhere"))
    return found


def top_faults(tree):
    found, bound = [], []
    for place, node in enumerate(tree.body):
        docstring = place == 0 and isinstance(node, ast.Expr) and isinstance(node.value, ast.Constant)
        if not docstring and not isinstance(node, TOP_NODES):
            found.append(("L3", node.lineno, "what doesn't stand at a file's top"))
        if isinstance(node, ast.Assign):
            bound += [target.id for target in node.targets if isinstance(target, ast.Name)]
            found += [("L3", node.lineno, "no plain value") for part in ast.walk(node.value)
                      if isinstance(part, (ast.Call, ast.Lambda, ast.ListComp, ast.Set, ast.JoinedStr))]
            found += [("L15", node.lineno, "a list in a list at the top") for part in ast.walk(node.value)
                      if isinstance(part, (ast.List, ast.Dict)) and part is not node.value]
        elif isinstance(node, (ast.FunctionDef, ast.ClassDef)):
            bound.append(node.name)
        elif isinstance(node, ast.ImportFrom):
            bound += [name.asname or name.name for name in node.names]
    found += [("L15", 0, f"{name} is bound twice") for name in set(bound) if bound.count(name) > 1]
    return found


def shadowed(tree):
    names = {node.name for node in tree.body if isinstance(node, ast.ClassDef)}
    for node in tree.body:
        if isinstance(node, ast.ImportFrom):
            names |= {name.asname or name.name for name in node.names}
    used = {node.arg for node in ast.walk(tree) if isinstance(node, ast.arg)}
    used |= {node.id for node in ast.walk(tree) if isinstance(node, ast.Name) and isinstance(node.ctx, ast.Store)}
    return sorted(names & used)


def node_faults(node, own):
    found = [] if isinstance(node, NODES) else [("L6", f"{node.__class__.__name__} is not used")]
    for kinds, check in CHECKS:
        if isinstance(node, kinds):
            found += check(node, own)
    return found


def check_def(node, own):
    found = []
    rest = node.args
    if rest.vararg or rest.kwarg or rest.kwonlyargs or rest.posonlyargs:
        found.append(("L4", "a parameter that is not plain"))
    if any(not isinstance(value, ast.Constant) for value in rest.defaults):
        found.append(("L4", "a default that is no plain value"))
    if isinstance(node, ast.FunctionDef):
        if node.decorator_list:
            found.append(("L4", "a decorator"))
        if node.end_lineno - node.lineno >= 40:
            found.append(("L10", "a function too long"))
        if node.returns or any(part.annotation for part in rest.args):
            found.append(("L21", "an annotation"))
        in_class = isinstance(node.above, ast.ClassDef)
        found += name_faults(node.name, in_class and node.name in DOUBLE)
        if not in_class and node.name in dir(builtins):
            found.append(("L15", "called like a name of Python's own"))
        if in_class and node.name in own["values"]:
            found.append(("L18", "a method here, a value elsewhere"))
    return found


def check_class(node, own):
    found = name_faults(node.name, False)
    if not isinstance(node.above, ast.Module):
        found.append(("L15", "a class that doesn't stand at the top"))
    if node.decorator_list or node.keywords or len(node.bases) > 1:
        found.append(("L5", "no plain class"))
    for base in node.bases:
        if not isinstance(base, ast.Name) or base.id not in (own["classes"] | ERRORS) - {"StopIteration"}:
            found.append(("L18", "a base that may not be one"))
    for place, part in enumerate(node.body):
        words = isinstance(part, ast.Expr) and isinstance(part.value, ast.Constant) and place == 0
        if not words and not isinstance(part, (ast.FunctionDef, ast.Pass)):
            found.append(("L5", "a value in a class"))
    names = [part.name for part in node.body if isinstance(part, ast.FunctionDef)]
    if len(set(names)) < len(names):
        found.append(("L18", "a method twice"))
    return found


def name_faults(name, allowed):
    found = []
    if not allowed and not re.fullmatch(r"[A-Za-z][A-Za-z0-9_]*", name):
        found.append(("L12", f"{name} is no plain name"))
    if name in NOWHERE or re.match(r"(f|tb|co|gi|cr|ag)_", name):
        found.append(("L17", f"{name} is not used"))
    return found


def check_name(node, own):
    name = node.id if isinstance(node, ast.Name) else node.arg
    found = name_faults(name, False)
    if name in NOT_AS_NAMES:
        found.append(("L17", f"{name} is not used"))
    binds = isinstance(node, ast.arg) or not isinstance(node.ctx, ast.Load)
    if binds and name in dir(builtins):
        found.append(("L15", f"{name} is a name of Python's own"))
    if not binds and name in dir(builtins) and name not in CALLED | ERRORS:
        found.append(("L8", f"{name} is not used"))
    if not binds and name in CALLED and not stands_as_call_or_key(node):
        found.append(("L22", f"{name} is called, not kept"))
    if not binds and name == "set" and not set_in_place(node):
        found.append(("L24", "a set that is kept or walked"))
    return found


def stands_as_call_or_key(node):
    above = node.above
    if isinstance(above, ast.Call):
        asked = isinstance(above.func, ast.Name) and above.func.id == "isinstance"
        return above.func is node or asked
    return isinstance(above, ast.keyword) or isinstance(above, ast.Tuple) and stands_as_call_or_key(above)


def set_in_place(node):
    above = node.above.above
    while isinstance(above, ast.BinOp):
        above = above.above
    if isinstance(above, ast.Call):
        return isinstance(above.func, ast.Name) and above.func.id in ("sorted", "len")
    return isinstance(above, ast.Compare)


def check_attribute(node, own):
    found = name_faults(node.attr, node.attr in DOUBLE)
    called = isinstance(node.above, ast.Call) and node.above.func is node
    if called and node.attr not in METHODS | own["methods"] | DOUBLE:
        found.append(("L25", f"{node.attr} is no method that is used"))
    if not called and node.attr in METHODS - FREE_VALUES:
        found.append(("L25", f"{node.attr} is handed on"))
    if isinstance(node.ctx, ast.Store) and (node.attr in NO_VALUES or node.attr in TAKEN - FREE_VALUES):
        found.append(("L26", f"{node.attr} is no free name"))
    return found


def check_call(node, own):
    name = node.func.id if isinstance(node.func, ast.Name) else None
    given = {word.arg for word in node.keywords}
    if None in given or any(isinstance(part, ast.Starred) for part in node.args):
        return [("L7", "a star")]
    if name in CALLED | ERRORS and given - KEYWORDS.get(name, set()):
        return [("L22", "a keyword that is not used")]
    if isinstance(node.func, ast.Attribute) and node.func.attr in METHODS and given:
        return [("L22", "a keyword at a method")]
    if name in ("zip", "enumerate", "reversed", "range") and isinstance(node.above, (ast.Assign, ast.Return)):
        return [("L23", "kept, not walked on the spot")]
    return []


def check_constant(node, own):
    if node.value is not None and not isinstance(node.value, (int, str)):
        return [("L7", "a value that is not used")]
    if isinstance(node.value, str) and "%" in node.value:
        return [("L27", "a sign that stands in no text")]
    return []


def check_operation(node, own):
    if isinstance(node.op, (ast.Div, ast.MatMult)):
        return [("L7", "an operator that is not used")]
    if isinstance(node.op, ast.Pow) and not (isinstance(node, ast.BinOp) and isinstance(node.right, ast.Constant)):
        return [("L27", "an exponent that is not written")]
    return []


def check_comparison(node, own):
    sides = [node.left] + node.comparators
    for place, sign in enumerate(node.ops):
        beside = [side for side in sides[place:place + 2]
                  if isinstance(side, ast.Constant) and (side.value is None or isinstance(side.value, bool))]
        if isinstance(sign, (ast.Is, ast.IsNot)) and not beside:
            return [("L20", "is stands beside None, True and False alone")]
    return []


def check_statement(node, own):
    found = []
    if isinstance(node, ast.Assign) and len(node.targets) > 1:
        found.append(("L6", "more than one target"))
    if isinstance(node, (ast.For, ast.While)) and node.orelse:
        found.append(("L6", "an else behind a loop"))
    if isinstance(node, ast.Try) and node.finalbody:
        found.append(("L6", "finally"))
    if isinstance(node, ast.Expr) and not isinstance(node.value, (ast.Call, ast.Constant)):
        found.append(("L6", "no call by itself"))
    if isinstance(node, ast.Raise) and node.exc is not None and not isinstance(node.exc, ast.Call):
        found.append(("L19", "an error that isn't made on the spot"))
    return found


def check_handler(node, own):
    taken = node.type.elts if isinstance(node.type, ast.Tuple) else [node.type]
    names = [part.id if isinstance(part, ast.Name) else None for part in taken]
    if None in names or {"Exception", "TypeError"} & set(names):
        return [("L19", "an error that is not taken")]
    return []


def check_comprehension(node, own):
    if len(node.generators) > 1 or len(node.generators[0].ifs) > 1:
        return [("L7", "more than one for or if")]
    return []


def check_formatted(node, own):
    if not isinstance(node.value, ast.Name) or node.format_spec or node.conversion not in (-1, ord("r")):
        return [("L7", "no plain name in braces")]
    return []


CHECKS = (
    ((ast.FunctionDef, ast.Lambda), check_def),
    (ast.ClassDef, check_class),
    ((ast.Name, ast.arg), check_name),
    (ast.Attribute, check_attribute),
    (ast.Call, check_call),
    (ast.Constant, check_constant),
    ((ast.BinOp, ast.AugAssign), check_operation),
    (ast.Compare, check_comparison),
    ((ast.Assign, ast.For, ast.While, ast.Try, ast.Expr, ast.Raise), check_statement),
    (ast.ExceptHandler, check_handler),
    (ast.ListComp, check_comprehension),
    (ast.FormattedValue, check_formatted),
)


def import_faults(texts):
    """Each import draws a name from the file that defines it, and no two files draw from one another."""
    found, drawn = [], {path: set() for path in texts}
    for path, text in texts.items():
        tree = ast.parse(text)
        for node in ast.walk(tree):
            if not isinstance(node, ast.ImportFrom):
                continue
            source = (node.module or "").removeprefix(PACKAGE + ".") + ".py"
            if node not in tree.body or node.level or source not in texts or source == "__main__.py":
                found.append(("L2", path, node.lineno))
                continue
            drawn[path] |= {source, "__init__.py"}
            if {name.name for name in node.names} - defined(texts[source]):
                found.append(("L16", path, node.lineno))
    return found + [("L16", path, 0) for path in texts if path in all_drawn(drawn, path)]


def defined(text):
    names = set()
    for node in ast.parse(text).body:
        if isinstance(node, (ast.FunctionDef, ast.ClassDef)):
            names.add(node.name)
        elif isinstance(node, ast.Assign):
            names |= {target.id for target in node.targets}
    return names


def all_drawn(drawn, path):
    found, waiting = set(), [path]
    while waiting:
        for source in drawn[waiting.pop()] - found:
            found.add(source)
            waiting.append(source)
    return found
