"""What breaks the rules of LANGUAGE.md in the package's files: a list of tuples (rule, file, line).

Most rules are seen in part alone, L11 and L13 not at all: what is let by here is still to be read
against the rules. It is stricter in places (no set is written out, no annotation stands)."""

import ast
import builtins
import re
import tokenize
from io import StringIO

PACKAGE = "oathfall"

OWN_NAMES = set((
    "len range enumerate zip min max sum abs sorted reversed int str bool list tuple dict set frozenset isinstance "
    "ord repr any all divmod Exception ValueError TypeError KeyError IndexError LookupError ZeroDivisionError "
    "ArithmeticError OverflowError RuntimeError NotImplementedError AttributeError StopIteration"
).split())
ERRORS = {name for name in OWN_NAMES if name[0].isupper()}
UNUSED = set((
    "register mro elements open input version_info with_traceback add_note attrgetter breakpoint builtins compile "
    "copyright credits delattr dir eval exec exit gc getattr globals hasattr help id importlib license locals "
    "methodcaller os quit setattr super sys type vars"
).split())
UNUSED_ATTRIBUTES = set((
    "register mro elements open input version_info with_traceback add_note format format_map f_back tb_next co_names"
).split())
WORDS = (
    r"\b(type|typing|typing_extensions|enum|Enum|IntEnum|StrEnum|Flag|IntFlag|Generic|Protocol|ABC|ABCMeta|namedtuple"
    r"|NamedTuple|TypedDict|TYPE_CHECKING|abstractmethod)\b|dataclass|overload|contextmanager"
)
METHODS = set((
    "append clear copy count endswith extend find get index insert isalnum isalpha isdigit islower isspace isupper "
    "items join keys ljust lower lstrip partition pop remove replace reverse rfind rjust rpartition rsplit rstrip "
    "setdefault split splitlines startswith strip update upper values zfill bit_length"
).split())
CHANGES = set("append clear extend insert pop remove reverse setdefault update".split())
VALUES = set("count index title find get join lower upper split strip copy add".split())
PYTHONS = {name for kind in (str, int, list, dict, set, bytes) for name in dir(kind)} | {"args"}
PYTHON_NAMES = {name for name in dir(builtins) if not name.startswith("_")}
DUNDERS = {"__init__", "__eq__", "__repr__", "__str__", "__len__"}
KEYWORDS = {
    "sorted": {"key", "reverse"}, "min": {"key", "default"}, "max": {"key", "default"},
    "sum": {"start"}, "enumerate": {"start"}, "zip": {"strict"},
}
WALKED = {"zip", "enumerate", "reversed", "range"}
WALKED_METHODS = {"items", "keys", "values"}
WALKERS = set("list tuple dict sorted sum any all enumerate zip min max".split())
FILE_NAMES = {"test", "tests", "testing", "site", "conftest", "sitecustomize", "usercustomize", "enum", "typing"}

STATEMENTS = (
    ast.Assign, ast.AugAssign, ast.AnnAssign, ast.If, ast.While, ast.For, ast.Return, ast.Break, ast.Continue,
    ast.Pass, ast.Raise, ast.Try, ast.Expr, ast.FunctionDef, ast.ClassDef, ast.ImportFrom,
)
EXPRESSIONS = (
    ast.Constant, ast.List, ast.Tuple, ast.Dict, ast.Set, ast.BinOp, ast.UnaryOp, ast.BoolOp, ast.Compare, ast.IfExp,
    ast.Call, ast.Attribute, ast.Subscript, ast.Slice, ast.ListComp, ast.JoinedStr, ast.FormattedValue, ast.Lambda,
    ast.Name,
)


def own(tree, kind):
    return [node for node in ast.walk(tree) if isinstance(node, kind)]


def parents(tree):
    return {child: node for node in ast.walk(tree) for child in ast.iter_child_nodes(node)}


def is_call_of(node, names):
    return isinstance(node, ast.Call) and isinstance(node.func, ast.Name) and node.func.id in names


class Package:
    """The files of a package, a dict from a file's name without .py to its text."""

    def __init__(self, files):
        self.files = files
        self.faults = []
        self.trees = {name: ast.parse(text) for name, text in files.items()}
        everything = [node for tree in self.trees.values() for node in ast.walk(tree)]
        classes = [node for node in everything if isinstance(node, ast.ClassDef)]
        self.classes = {node.name for node in classes}
        self.methods = {part.name for node in classes for part in node.body if isinstance(part, ast.FunctionDef)}
        self.values = {
            node.attr for node in everything
            if isinstance(node, ast.Attribute) and isinstance(node.ctx, ast.Store)
        }

    def check(self):
        for name, text in self.files.items():
            File(self, name, text, self.trees[name]).check()
        for name in sorted(self.methods & self.values):
            self.faults.append(("L18", name, 0))
        for name in sorted(self.values - VALUES):
            if name in PYTHONS:
                self.faults.append(("L26", name, 0))
        for name in sorted(self.methods - DUNDERS - METHODS - {"add", "discard"}):
            if name in PYTHONS:
                self.faults.append(("L26", name, 0))
        for name in self.files:
            if name in self.drawn(name):
                self.faults.append(("L16", name, 0))
        return self.faults

    def imports(self, name):
        return [node.module.partition(".")[2] or "__init__" for node in own(self.trees[name], ast.ImportFrom)
                if node.module and node.module.split(".")[0] == PACKAGE]

    def drawn(self, name):
        """All files that one draws from in whatever many steps; the one itself just where there is a round."""
        reached = []
        ahead = self.imports(name)
        while ahead:
            other = ahead.pop()
            if other not in reached and other in self.trees:
                reached.append(other)
                ahead += self.imports(other) + ["__init__"]
        return reached


class File:
    def __init__(self, package, name, text, tree):
        self.package = package
        self.name = name
        self.text = text
        self.tree = tree
        self.above = parents(tree)
        self.tops = self.top_names()

    def fault(self, rule, node=None):
        self.package.faults.append((rule, self.name, getattr(node, "lineno", node or 0)))

    def check(self):
        self.check_signs()
        self.check_top()
        for node in ast.walk(self.tree):
            self.check_node(node)

    def top_names(self):
        names = []
        for node in self.tree.body:
            if isinstance(node, (ast.FunctionDef, ast.ClassDef)):
                names.append(node.name)
            elif isinstance(node, ast.Assign):
                names += [target.id for target in node.targets if isinstance(target, ast.Name)]
            elif isinstance(node, ast.ImportFrom):
                names += [part.asname or part.name for part in node.names]
        return names

    # Signs, words and sizes.

    def check_signs(self):
        if not re.fullmatch(r"[a-z][a-z0-9_]*|__init__|__main__", self.name):
            self.fault("L14")
        if self.name in FILE_NAMES or self.name.startswith("test_") or self.name in PYTHON_NAMES:
            self.fault("L14")
        rows = self.text.split("\n")
        if len(rows) > 400:
            self.fault("L10")
        for number, row in enumerate(rows, start=1):
            if len(row) > 120 or "\t" in row:
                self.fault("L10", number)
            if re.search(r"[^ -~\t]", row):
                self.fault("L14", number)
            if re.search(WORDS, row):
                self.fault("L17", number)
        for token in tokenize.generate_tokens(StringIO(self.text).readline):
            if token.type == tokenize.STRING and re.search(r"\\[^nt\\'\"]", token.string):
                self.fault("L27", token.start[0])

    # What stands at a file's top.

    def check_top(self):
        for place, node in enumerate(self.tree.body):
            if isinstance(node, ast.Expr):
                if place > 0 or not isinstance(node.value, ast.Constant) or not isinstance(node.value.value, str):
                    self.fault("L3", node)
            elif isinstance(node, ast.Assign):
                self.check_plain(node.value)
            elif not isinstance(node, (ast.FunctionDef, ast.ClassDef, ast.ImportFrom)):
                self.fault("L3", node)
        for name in set(self.tops):
            if self.tops.count(name) > 1:
                self.fault("L15")

    def check_plain(self, value, within=False):
        if isinstance(value, (ast.List, ast.Tuple, ast.Dict)):
            if within and not isinstance(value, ast.Tuple):
                self.fault("L15", value)
            parts = value.keys + value.values if isinstance(value, ast.Dict) else value.elts
            for part in parts:
                self.check_plain(part, True)
        elif isinstance(value, ast.UnaryOp) and isinstance(value.op, ast.USub):
            self.check_plain(value.operand, within)
        elif isinstance(value, ast.Name):
            if value.id not in self.tops:
                self.fault("L3", value)
        elif not isinstance(value, ast.Constant):
            self.fault("L3", value)

    # Each node by its kind.

    def check_node(self, node):
        if isinstance(node, ast.stmt) and not isinstance(node, STATEMENTS):
            self.fault("L6", node)
        if isinstance(node, ast.expr) and not isinstance(node, EXPRESSIONS):
            self.fault("L7", node)
        for kind in type(node).__mro__:
            method = getattr(self, "see_" + kind.__name__, None)
            if method:
                method(node)

    def see_ImportFrom(self, node):
        if node not in self.tree.body or node.level or any(part.name == "*" for part in node.names):
            self.fault("L2", node)
        if node.module == "__future__":
            return
        file = (node.module or "").partition(".")[2]
        if not (node.module or "").startswith(PACKAGE + ".") or file == "__main__" or file not in self.package.trees:
            self.fault("L2", node)
            return
        defined = [part.name for part in self.package.trees[file].body
                   if isinstance(part, (ast.FunctionDef, ast.ClassDef))]
        for part in self.package.trees[file].body:
            if isinstance(part, ast.Assign):
                defined += [target.id for target in part.targets]
        for part in node.names:
            if part.name not in defined:
                self.fault("L16", node)

    def see_FunctionDef(self, node):
        given = node.args
        if node.decorator_list or given.vararg or given.kwarg or given.kwonlyargs or given.posonlyargs:
            self.fault("L4", node)
        for value in given.defaults:
            self.check_plain(value)
        if node.end_lineno - node.lineno + 1 > 40:
            self.fault("L10", node)
        if node.returns or any(part.annotation for part in given.args):
            self.fault("L21", node)
        if node.name == "__init__":
            for part in own(node, ast.Return):
                if part.value is not None:
                    self.fault("L28", part)
        self.check_name(node.name, node, isinstance(self.above[node], ast.ClassDef))
        self.check_locals(node)

    def check_locals(self, node):
        defined = [part.arg for part in own(node, ast.arg)]
        defined += [part.id for part in own(node, ast.Name) if isinstance(part.ctx, ast.Store)]
        imported = [part.asname or part.name for row in own(self.tree, ast.ImportFrom) for part in row.names]
        for name in defined:
            self.check_name(name, node)
            if name in self.package.classes or name in imported or name in PYTHON_NAMES:
                self.fault("L15", node)

    def see_ClassDef(self, node):
        if node.decorator_list or len(node.bases) > 1 or node.keywords:
            self.fault("L5", node)
        if node not in self.tree.body:
            self.fault("L15", node)
        for base in node.bases:
            if not isinstance(base, ast.Name) or base.id not in self.package.classes | ERRORS:
                self.fault("L5", node)
            elif base.id in ("StopIteration", "AttributeError"):
                self.fault("L18", node)
        for part in node.body:
            if not isinstance(part, (ast.FunctionDef, ast.Pass)):
                self.fault("L5", part)
        names = [part.name for part in node.body if isinstance(part, ast.FunctionDef)]
        if len(set(names)) < len(names):
            self.fault("L18", node)
        self.check_name(node.name, node)

    def check_name(self, name, node, method=False):
        if name.startswith("_") and not (method and name in DUNDERS) and name not in ("__all__", "__version__"):
            self.fault("L12", node)
        if name in UNUSED and not (method and name not in UNUSED_ATTRIBUTES):
            self.fault("L17", node)

    def see_Assign(self, node):
        if len(node.targets) > 1:
            self.fault("L6", node)

    def see_AnnAssign(self, node):
        self.fault("L21", node)

    def see_For(self, node):
        if node.orelse:
            self.fault("L6", node)
        self.check_walk(node)

    def see_While(self, node):
        if node.orelse:
            self.fault("L6", node)

    def check_walk(self, node):
        walked = ast.unparse(node.iter)
        for call in own(node, ast.Call):
            if isinstance(call.func, ast.Attribute) and call.func.attr in CHANGES:
                if ast.unparse(call.func.value) in walked:
                    self.fault("L23", call)

    def see_Try(self, node):
        if node.finalbody:
            self.fault("L6", node)

    def see_ExceptHandler(self, node):
        taken = node.type.elts if isinstance(node.type, ast.Tuple) else [node.type]
        for one in taken:
            if not isinstance(one, ast.Name) or one.id in ("Exception", "TypeError"):
                self.fault("L19", node)

    def see_Raise(self, node):
        if node.exc is not None and not isinstance(node.exc, ast.Call):
            self.fault("L19", node)

    def see_Expr(self, node):
        if not isinstance(node.value, ast.Call) and not (node in self.tree.body and node == self.tree.body[0]):
            self.fault("L6", node)

    def see_Constant(self, node):
        if not isinstance(node.value, (int, str, type(None))):
            self.fault("L7", node)
        if isinstance(node.value, str) and "%" in node.value:
            self.fault("L27", node)

    def see_BinOp(self, node):
        self.check_operator(node, node.right)

    def see_AugAssign(self, node):
        self.check_operator(node, node.value)

    def check_operator(self, node, right):
        if isinstance(node.op, (ast.Div, ast.MatMult)):
            self.fault("L7", node)
        if isinstance(node.op, ast.Pow) and not isinstance(right, ast.Constant):
            self.fault("L27", node)

    def see_Compare(self, node):
        sides = [node.left] + node.comparators
        for place, op in enumerate(node.ops):
            if isinstance(op, (ast.Is, ast.IsNot)):
                pair = sides[place:place + 2]
                if not any(isinstance(side, ast.Constant) and side.value in (None, True, False) for side in pair):
                    self.fault("L20", node)

    def see_ListComp(self, node):
        if len(node.generators) > 1 or len(node.generators[0].ifs) > 1:
            self.fault("L7", node)

    def see_FormattedValue(self, node):
        if not isinstance(node.value, ast.Name) or node.format_spec or node.conversion not in (-1, ord("r")):
            self.fault("L7", node)

    def see_Set(self, node):
        self.fault("L24", node)

    def see_Name(self, node):
        if isinstance(node.ctx, ast.Load):
            if node.id in PYTHON_NAMES and node.id not in OWN_NAMES:
                self.fault("L8", node)
            self.check_class_use(node)
        self.check_name(node.id, node)

    def check_class_use(self, node):
        above = self.above[node]
        if node.id not in self.package.classes:
            return
        called = isinstance(above, ast.Call) and above.func == node
        asked = is_call_of(above, {"isinstance"}) or isinstance(above, ast.Tuple)
        base = isinstance(above, (ast.ClassDef, ast.ExceptHandler, ast.Raise))
        begun = isinstance(above, ast.Attribute) and above.attr == "__init__"
        if not (called or asked or base or begun):
            self.fault("L18", node)

    def see_Attribute(self, node):
        if node.attr in UNUSED_ATTRIBUTES:
            self.fault("L17", node)
        if node.attr.startswith("_") and node.attr != "__init__":
            self.fault("L12", node)
        above = self.above[node]
        called = isinstance(above, ast.Call) and above.func == node
        if not called and node.attr in self.package.methods | METHODS and node.attr not in self.package.values:
            if not (isinstance(above, ast.keyword) and above.arg == "key"):
                self.fault("L25", node)

    def see_Call(self, node):
        if isinstance(node.func, ast.Attribute):
            known = METHODS | self.package.methods
            if node.func.attr not in known:
                self.fault("L25", node)
            if node.func.attr in METHODS and node.keywords:
                self.fault("L22", node)
        elif isinstance(node.func, ast.Name):
            if node.func.id in OWN_NAMES:
                for keyword in node.keywords:
                    if keyword.arg not in KEYWORDS.get(node.func.id, ()):
                        self.fault("L22", node)
        self.check_walked(node)
        if is_call_of(node, {"set", "frozenset"}):
            self.check_set(node)

    def check_walked(self, node):
        method = isinstance(node.func, ast.Attribute) and node.func.attr in WALKED_METHODS and not node.args
        if not is_call_of(node, WALKED) and not method:
            return
        above = self.above[node]
        walked = isinstance(above, (ast.For, ast.comprehension)) and above.iter == node
        joined = isinstance(above, ast.Call) and isinstance(above.func, ast.Attribute) and above.func.attr == "join"
        if not (walked or joined or is_call_of(above, WALKERS)):
            self.fault("L23", node)

    def check_set(self, node):
        above = self.above[node]
        while isinstance(above, ast.BinOp):
            above = self.above[above]
        if not isinstance(above, ast.Compare) and not is_call_of(above, {"sorted", "len"}):
            self.fault("L24", node)
