"""A reader of the package's files: tells where one breaks a rule of LANGUAGE.md that can be seen in its tree.

It sees the forms, names and sizes of rules L1 to L8, L10, L12, L14 to L18, L20, L21, L23, L25 and L27, not the whole
of each; what it doesn't see is still asked for.
"""

import ast
import builtins
import re

PACKAGE = "crystalwords"

OWN_NAMES = set(
    "len range enumerate zip min max sum abs sorted reversed int str bool list tuple dict set frozenset isinstance "
    "ord repr any all divmod Exception ValueError TypeError KeyError IndexError LookupError ZeroDivisionError "
    "ArithmeticError OverflowError RuntimeError NotImplementedError AttributeError StopIteration".split()
)
METHODS = set(
    "append clear copy count endswith extend find get index insert isalnum isalpha isdigit islower isspace isupper "
    "items join keys ljust lower lstrip partition pop remove replace reverse rfind rjust rpartition rsplit rstrip "
    "setdefault split splitlines startswith strip update upper values zfill bit_length add discard title".split()
)
TWO_UNDERSCORES = set("__init__ __eq__ __repr__ __str__ __len__ __all__ __version__ __name__".split())
NOT_NAMES = set(
    "register mro elements open input version_info with_traceback add_note attrgetter breakpoint builtins compile "
    "copyright credits delattr dir eval exec exit gc getattr globals hasattr help id importlib license locals "
    "methodcaller os quit setattr super type vars format format_map".split()
)
NOT_WORDS = (
    r"\b(type|typing|typing_extensions|enum|Enum|IntEnum|StrEnum|Flag|IntFlag|Generic|Protocol|ABC|ABCMeta|namedtuple"
    r"|NamedTuple|TypedDict|TYPE_CHECKING|abstractmethod)\b|dataclass|overload|contextmanager"
)
NODES = set(
    "Module FunctionDef arguments arg ClassDef Return Assign AugAssign For While If Raise Try ExceptHandler ImportFrom "
    "alias Expr Pass Break Continue BoolOp BinOp UnaryOp Lambda IfExp Dict Set ListComp comprehension Compare Call "
    "keyword JoinedStr FormattedValue Constant Attribute Subscript Slice Name List Tuple Load Store "
    "And Or Add Sub Mult Mod Pow FloorDiv LShift RShift BitOr BitXor BitAnd Invert Not UAdd USub "
    "Eq NotEq Lt LtE Gt GtE Is IsNot In NotIn".split()
)
PLACE_OF = {"__main__.py": {"Import"}}
SOURCES = (str, int, list, tuple, dict, set, bytes)
DEFS = (ast.FunctionDef, ast.ClassDef)
WALKS = set("zip enumerate reversed range".split())
WALKERS = set("list tuple dict sorted sum any all enumerate zip min max".split())
VIEWS = set("items keys values".split())


def faults_of_text(text):
    if not re.fullmatch(r"[ -~\n]*", text):
        yield "L14", "a sign beyond the blank to ~"
    rows = text.split("\n")
    if len(rows) > 401:
        yield "L10", "a file of more than 400 lines"
    for number, row in enumerate(rows, 1):
        if len(row) > 120:
            yield "L10", f"line {number} is too long"
        if re.search(NOT_WORDS, row):
            yield "L17", f"line {number} has a word that is not used"


def faults_of_name(name, file):
    if name in NOT_NAMES or (name == "sys" and file != "__main__.py"):
        yield "L17", f"the name {name}"
    if name not in TWO_UNDERSCORES and not re.fullmatch(r"[A-Za-z][A-Za-z0-9_]*", name):
        yield "L12", f"the name {name}"


def bound_names(node):
    if isinstance(node, DEFS):
        yield node.name
    elif isinstance(node, ast.arg):
        yield node.arg
    elif isinstance(node, ast.Name) and isinstance(node.ctx, ast.Store):
        yield node.id
    elif isinstance(node, ast.ExceptHandler) and node.name:
        yield node.name


def faults_of_def(node):
    if node.end_lineno - node.lineno >= 40:
        yield "L10", f"{node.name} has more than 40 lines"
    if node.decorator_list:
        yield "L4", f"{node.name} has a decorator"
    given = node.args
    if given.vararg or given.kwarg or given.kwonlyargs or given.posonlyargs:
        yield "L4", f"{node.name} has other than plain parameters"


def faults_of_class(node):
    if node.decorator_list or node.keywords or len(node.bases) > 1:
        yield "L5", f"{node.name} is no plain class"
    for part in node.body:
        plain = isinstance(part, (ast.FunctionDef, ast.Pass))
        if not plain and not (isinstance(part, ast.Expr) and isinstance(part.value, ast.Constant)):
            yield "L5", f"{node.name} holds a value"


def faults_of_import(node, defined):
    file = node.module or ""
    if node.level or file.split(".")[0] != PACKAGE:
        yield "L2", f"an import from {file}"
    else:
        for name in node.names:
            if name.asname or name.name not in defined.get(file, ()):
                yield "L16", f"{name.name} is not defined in {file}"


def faults_of_value(node):
    if isinstance(node.value, (float, complex, bytes)) or node.value is Ellipsis:
        yield "L7", f"the value {node.value!r}"
    if isinstance(node.value, str) and "%" in node.value:
        yield "L27", "a text with the sign for rests"


def faults_of_power(node):
    if isinstance(node, ast.BinOp) and isinstance(node.op, ast.Pow):
        written = isinstance(node.right, ast.Constant) and node.right.value in range(65)
        if not written:
            yield "L27", "an exponent that is not written, from 0 to 64"


def is_walk(node):
    if not isinstance(node, ast.Call):
        return False
    if isinstance(node.func, ast.Name):
        return node.func.id in WALKS
    return isinstance(node.func, ast.Attribute) and node.func.attr in VIEWS


def walked_at_once(node):
    """What a node walks on the spot."""
    if isinstance(node, (ast.For, ast.comprehension)):
        yield node.iter
    elif isinstance(node, ast.Call) and isinstance(node.func, ast.Name) and node.func.id in WALKERS:
        yield from node.args if node.func.id == "zip" else node.args[:1]
    elif isinstance(node, ast.Call) and isinstance(node.func, ast.Attribute) and node.func.attr == "join":
        yield from node.args


def faults_of_walks(tree):
    walked = [part for node in ast.walk(tree) for part in walked_at_once(node)]
    for node in ast.walk(tree):
        if is_walk(node) and not any(node is part for part in walked):
            yield "L23", f"line {node.lineno}: what is walked is kept"


def faults_of_top(tree):
    told = []
    for node in tree.body:
        text = isinstance(node, ast.Expr) and isinstance(node.value, ast.Constant)
        if not text and not isinstance(node, DEFS + (ast.ImportFrom, ast.Import, ast.Assign, ast.If)):
            yield "L3", f"line {node.lineno}: something is done at the file's top"
        if isinstance(node, ast.ImportFrom):
            told.extend(name.name for name in node.names)
        elif isinstance(node, DEFS):
            told.append(node.name)
        elif isinstance(node, ast.Assign):
            told.extend(target.id for target in node.targets if isinstance(target, ast.Name))
    for name in sorted(set(told)):
        if told.count(name) > 1:
            yield "L15", f"{name} is bound more than once at the file's top"


def faults_of_locals(tree):
    kept = [node.name for node in tree.body if isinstance(node, ast.ClassDef)]
    for node in tree.body:
        if isinstance(node, ast.ImportFrom):
            kept.extend(name.name for name in node.names)
    for node in ast.walk(tree):
        if not isinstance(node, DEFS):
            for name in bound_names(node):
                if name in kept:
                    yield "L15", f"line {node.lineno}: {name} is called like a class or an import"


def faults_of_statement(node):
    if isinstance(node, (ast.For, ast.While)) and node.orelse:
        yield "L6", "an else behind a loop"
    if isinstance(node, ast.Try) and node.finalbody:
        yield "L6", "a finally"
    if isinstance(node, ast.Assign) and len(node.targets) > 1:
        yield "L6", "an assignment with several targets"
    if isinstance(node, ast.Expr) and not isinstance(node.value, (ast.Call, ast.Constant)):
        yield "L6", "an expression by itself that is no call"
    if isinstance(node, ast.ExceptHandler) and node.type is None:
        yield "L6", "an except without a class"
    if isinstance(node, ast.FunctionDef) and (node.returns or any(part.annotation for part in node.args.args)):
        yield "L21", f"{node.name} has an annotation"
    if isinstance(node, ast.ListComp):
        if len(node.generators) > 1 or len(node.generators[0].ifs) > 1:
            yield "L7", "a comprehension with more than one for and one if"
    if isinstance(node, ast.Compare):
        for sign, right in zip(node.ops, node.comparators):
            single = isinstance(right, ast.Constant) and (right.value is None or isinstance(right.value, bool))
            if isinstance(sign, (ast.Is, ast.IsNot)) and not single:
                yield "L20", "is beside another thing than None, True and False"


def faults_of_attribute(node, file):
    yield from faults_of_name(node.attr, file)
    known = any(hasattr(source, node.attr) for source in SOURCES)
    if known and node.attr not in METHODS | TWO_UNDERSCORES:
        yield "L25", f"the method {node.attr}"


def faults_of_node(node, file, defined):
    form = node.__class__.__name__
    if form not in NODES | PLACE_OF.get(file, set()):
        yield "L6", f"the form {form}"
    for name in bound_names(node):
        yield from faults_of_name(name, file)
        if hasattr(builtins, name) and name not in TWO_UNDERSCORES:
            yield "L15", f"{name} is a name of Python's own"
    if isinstance(node, ast.FunctionDef):
        yield from faults_of_def(node)
    elif isinstance(node, ast.ClassDef):
        yield from faults_of_class(node)
    elif isinstance(node, ast.ImportFrom):
        yield from faults_of_import(node, defined)
    elif isinstance(node, ast.Constant):
        yield from faults_of_value(node)
    elif isinstance(node, ast.Attribute):
        yield from faults_of_attribute(node, file)
    elif isinstance(node, ast.Name) and isinstance(node.ctx, ast.Load):
        own = node.id in OWN_NAMES or (node.id == "print" and file == "__main__.py")
        if hasattr(builtins, node.id) and not own and node.id != "__name__":
            yield "L8", f"the name {node.id}"
    yield from faults_of_statement(node)
    yield from faults_of_power(node)


def faults(file, text, defined):
    """The faults of a file's text, as pairs of a rule and a remark; defined: for each module the names it defines."""
    if not re.fullmatch(r"[a-z][a-z0-9_]*\.py|__init__\.py|__main__\.py", file):
        yield "L14", f"the file name {file}"
    yield from faults_of_text(text)
    tree = ast.parse(text)
    for node in ast.walk(tree):
        for rule, remark in faults_of_node(node, file, defined):
            yield rule, f"line {getattr(node, 'lineno', 0)}: {remark}"
    yield from faults_of_walks(tree)
    yield from faults_of_top(tree)
    yield from faults_of_locals(tree)
    for node in ast.walk(tree):
        inner = isinstance(node, (ast.FunctionDef, ast.ClassDef, ast.If, ast.For, ast.While, ast.Try))
        if inner and any(isinstance(part, (ast.ImportFrom, ast.ClassDef)) for part in node.body):
            yield "L15", f"line {node.lineno}: an import or a class that is not at the file's top"


def defined_names(text):
    """The names that a file's text defines at its top."""
    names = []
    for node in ast.parse(text).body:
        if isinstance(node, DEFS):
            names.append(node.name)
        elif isinstance(node, ast.Assign):
            names.extend(target.id for target in node.targets if isinstance(target, ast.Name))
    return names


def methods_and_values(text):
    """The names that a file's text has as methods of its classes, and those that it gives as values to objects."""
    tree = ast.parse(text)
    methods = [part.name for node in ast.walk(tree) if isinstance(node, ast.ClassDef) for part in node.body
               if isinstance(part, ast.FunctionDef)]
    values = [node.attr for node in ast.walk(tree)
              if isinstance(node, ast.Attribute) and isinstance(node.ctx, ast.Store)]
    return methods, values


def drawn_from(text):
    """The modules that a file's text imports from."""
    return [node.module for node in ast.parse(text).body if isinstance(node, ast.ImportFrom)]
