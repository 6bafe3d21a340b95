"""Looks at a package's files for what LANGUAGE.md rules out, as far as the form alone shows it."""

import ast
import builtins
import re

PLAIN_NAME = re.compile(r"[A-Za-z][A-Za-z0-9_]*$")
FILE_NAME = re.compile(r"(__init__|__main__|[a-z][a-z0-9_]*)\.py$")

NODES = set("""
Module Expr Constant Name Load Store Attribute Subscript Slice Call keyword ImportFrom alias FunctionDef
arguments arg Lambda ClassDef Return Assign AugAssign If While For Break Continue Pass Raise Try ExceptHandler
BinOp UnaryOp BoolOp Compare IfExp And Or Not USub UAdd Invert Add Sub Mult FloorDiv Mod Pow BitAnd BitOr BitXor
LShift RShift Eq NotEq Lt LtE Gt GtE Is IsNot In NotIn List Tuple Dict Set ListComp comprehension JoinedStr
FormattedValue
""".split())

OWN_NAMES = set("""
len range enumerate zip min max sum abs sorted reversed int str bool list tuple dict set frozenset isinstance ord
repr any all divmod Exception ValueError TypeError KeyError IndexError LookupError ZeroDivisionError ArithmeticError
OverflowError RuntimeError NotImplementedError AttributeError StopIteration
""".split())

OWN_METHODS = set("""
append clear copy count endswith extend find get index insert isalnum isalpha isdigit islower isspace isupper items
join keys ljust lower lstrip partition pop remove replace reverse rfind rjust rpartition rsplit rstrip setdefault
split splitlines startswith strip update upper values zfill bit_length
""".split())

SPECIAL_METHODS = {"__init__", "__eq__", "__repr__", "__str__", "__len__"}

WORDS = re.compile(r"\b(type|typing|typing_extensions|enum|Enum|IntEnum|StrEnum|Flag|IntFlag|Generic|Protocol|ABC|"
                   r"ABCMeta|namedtuple|NamedTuple|TypedDict|TYPE_CHECKING|abstractmethod)\b|"
                   r"dataclass|overload|contextmanager")

NOT_USED = set("""
register mro elements open input version_info with_traceback add_note format format_map
""".split())


def file_faults(name, source):
    """The faults that one file shows by itself, as texts that begin with the rule's number."""
    tree = ast.parse(source)
    return (name_faults(name) + sign_faults(source) + top_faults(tree) + node_faults(tree)
            + function_faults(tree) + class_faults(tree) + text_faults(tree))


def name_faults(name):
    return [] if FILE_NAME.match(name) else ["L14 file " + name]


def sign_faults(source):
    rows = source.split("\n")
    found = ["L14 sign " + repr(sign) for sign in source if not (" " <= sign <= "~" or sign == "\n")]
    found += ["L10 long line " + row for row in rows if len(row) > 120]
    found += ["L10 long file"] if len(rows) > 401 else []
    found += ["L17 word " + match.group() for match in WORDS.finditer(source)]
    return found


def top_faults(tree):
    found = []
    bound = []
    for number, node in enumerate(tree.body):
        if isinstance(node, (ast.FunctionDef, ast.ClassDef)):
            bound.append(node.name)
        elif isinstance(node, ast.ImportFrom):
            bound += [alias.asname or alias.name for alias in node.names]
            if node.level or not (node.module or "").startswith("pactroom.") or node.names[0].name == "*":
                found.append("L2 import in line %d" % node.lineno)
        elif isinstance(node, ast.Assign) and isinstance(node.targets[0], ast.Name):
            bound.append(node.targets[0].id)
        elif not (number == 0 and is_words(node)):
            found.append("L3 line %d" % node.lineno)
    return found + ["L15 twice " + name for name in sorted(set(bound)) if bound.count(name) > 1]


def is_words(node):
    return isinstance(node, ast.Expr) and isinstance(node.value, ast.Constant) and isinstance(node.value.value, str)


def node_faults(tree):
    found = []
    for node in ast.walk(tree):
        kind = node.__class__.__name__
        if kind not in NODES:
            found.append("L6 or L7 " + kind)
        found += plain_faults(node)
    return found


def plain_faults(node):
    if isinstance(node, ast.Assign) and (len(node.targets) > 1 or isinstance(node.targets[0], ast.Tuple)):
        return ["L6 targets in line %d" % node.lineno]
    if isinstance(node, (ast.For, ast.While, ast.Try)) and (getattr(node, "finalbody", [])
                                                            or node.orelse and not isinstance(node, ast.Try)):
        return ["L6 behind a loop or try in line %d" % node.lineno]
    if isinstance(node, ast.ListComp) and (len(node.generators) > 1 or len(node.generators[0].ifs) > 1):
        return ["L7 comprehension in line %d" % node.lineno]
    if isinstance(node, ast.ExceptHandler) and (node.type is None or ast.unparse(node.type) in ("Exception", "TypeError")):
        return ["L19 except in line %d" % node.lineno]
    if isinstance(node, ast.Compare) and any(isinstance(op, (ast.Is, ast.IsNot)) for op in node.ops):
        plain = [isinstance(side, ast.Constant) and side.value in (None, True, False) for side in node.comparators]
        return [] if all(plain) else ["L20 line %d" % node.lineno]
    if isinstance(node, ast.Name):
        return used_faults(node)
    if isinstance(node, ast.Attribute) and (node.attr in NOT_USED or node.attr.startswith("_")
                                            and node.attr not in SPECIAL_METHODS):
        return ["L8 or L17 " + node.attr]
    return []


def used_faults(node):
    if node.id in NOT_USED or not PLAIN_NAME.match(node.id):
        return ["L12 or L17 " + node.id]
    known = hasattr(builtins, node.id)
    if known and (node.id not in OWN_NAMES or isinstance(node.ctx, ast.Store)):
        return ["L8 or L15 " + node.id]
    return []


def function_faults(tree):
    found = []
    for node in ast.walk(tree):
        if isinstance(node, ast.FunctionDef):
            given = node.args
            names = [arg.arg for arg in given.args]
            if given.vararg or given.kwarg or given.kwonlyargs or given.posonlyargs or node.decorator_list:
                found.append("L4 " + node.name)
            if node.returns or any(arg.annotation for arg in given.args):
                found.append("L21 " + node.name)
            if node.end_lineno - node.lineno >= 40:
                found.append("L10 long " + node.name)
            if node.name not in SPECIAL_METHODS:
                names.append(node.name)
            found += ["L12 " + name for name in names if not PLAIN_NAME.match(name)]
            found += ["L15 " + arg.arg for arg in given.args if hasattr(builtins, arg.arg)]
    return found


def class_faults(tree):
    found = []
    for node in ast.walk(tree):
        if isinstance(node, ast.ClassDef):
            methods = [part.name for part in node.body if isinstance(part, ast.FunctionDef)]
            others = [part for part in node.body if not isinstance(part, (ast.FunctionDef, ast.Pass))]
            if others or len(node.bases) > 1 or node.keywords or node.decorator_list:
                found.append("L5 " + node.name)
            if len(methods) != len(set(methods)):
                found.append("L18 a method twice in " + node.name)
    return found


def text_faults(tree):
    constants = [node for node in ast.walk(tree) if isinstance(node, ast.Constant)]
    found = ["L27 percent in line %d" % node.lineno
             for node in constants if isinstance(node.value, str) and "%" in node.value]
    return found + ["L7 line %d" % node.lineno
                    for node in constants if isinstance(node.value, (float, bytes, complex))]


def package_faults(sources):
    """The faults that show only where all files (a dict of sources by file name) are seen together."""
    trees = {name[:-3]: ast.parse(source) for name, source in sources.items()}
    return import_faults(trees) + member_faults(trees)


def import_faults(trees):
    drawn = {}
    found = []
    for name, tree in trees.items():
        drawn[name] = []
        for node in tree.body:
            if isinstance(node, ast.ImportFrom):
                source = node.module.partition(".")[2]
                drawn[name].append(source)
                defined = [part.name for part in trees[source].body
                           if isinstance(part, (ast.FunctionDef, ast.ClassDef))]
                defined += [part.targets[0].id for part in trees[source].body if isinstance(part, ast.Assign)]
                found += ["L16 " + alias.name for alias in node.names if alias.name not in defined]
    return found + ["L16 ring at " + name for name in drawn if name in reached(drawn, name)]


def reached(drawn, name):
    seen = []
    ahead = list(drawn[name])
    while ahead:
        source = ahead.pop()
        if source not in seen:
            seen.append(source)
            ahead += drawn[source]
    return seen


def member_faults(trees):
    methods = set()
    values = set()
    called = set()
    for tree in trees.values():
        for node in ast.walk(tree):
            if isinstance(node, ast.ClassDef):
                methods |= {part.name for part in node.body if isinstance(part, ast.FunctionDef)}
            if isinstance(node, ast.Attribute) and isinstance(node.ctx, ast.Store):
                values.add(node.attr)
            if isinstance(node, ast.Call) and isinstance(node.func, ast.Attribute):
                called.add(node.func.attr)
    found = ["L18 method and value " + name for name in sorted(methods & values)]
    return found + ["L25 method " + name for name in sorted(called - methods - OWN_METHODS)]
