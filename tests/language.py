"""A looker for the part of Python that the package keeps to: the rules L1 to L28, as far as they can be seen."""

import ast
import builtins
import re

OWN = set("""len range enumerate zip min max sum abs sorted reversed int str bool list tuple dict set frozenset
isinstance ord repr any all divmod Exception ValueError TypeError KeyError IndexError LookupError ZeroDivisionError
ArithmeticError OverflowError RuntimeError NotImplementedError AttributeError StopIteration""".split())
METHODS = set("""append clear copy count endswith extend find get index insert isalnum isalpha isdigit islower isspace
isupper items join keys ljust lower lstrip partition pop remove replace reverse rfind rjust rpartition rsplit rstrip
setdefault split splitlines startswith strip update upper values zfill bit_length __init__""".split())
BARRED = set("""register mro elements open input version_info with_traceback add_note attrgetter breakpoint builtins
compile copyright credits delattr dir eval exec exit gc getattr globals hasattr help id importlib license locals
methodcaller os quit setattr super type vars sys format format_map""".split())
WORDS = re.compile(r"\b(type|typing|typing_extensions|enum|Enum|IntEnum|StrEnum|Flag|IntFlag|Generic|Protocol|ABC|"
                   r"ABCMeta|namedtuple|NamedTuple|TypedDict|TYPE_CHECKING|abstractmethod)\b|"
                   r"dataclass|overload|contextmanager")
STATEMENTS = (ast.Assign, ast.AugAssign, ast.If, ast.While, ast.For, ast.Return, ast.Break, ast.Continue, ast.Pass,
              ast.Raise, ast.Try, ast.Expr, ast.FunctionDef)
BANNED = (ast.Set, ast.SetComp, ast.DictComp, ast.GeneratorExp, ast.NamedExpr, ast.Starred, ast.Div, ast.MatMult,
          ast.Await, ast.Yield, ast.YieldFrom, ast.AnnAssign)
WALKED = ("zip", "enumerate", "reversed", "range", "items", "keys", "values")
WALKERS = ("list", "tuple", "dict", "sorted", "sum", "any", "all", "enumerate", "zip", "min", "max", "join")
KEYWORDS = {"sorted": ("key", "reverse"), "min": ("key", "default"), "max": ("key", "default"), "sum": ("start",),
            "enumerate": ("start",), "zip": ("strict",)}


def called(node):
    """The name that a call calls."""
    if isinstance(node.func, ast.Name):
        return node.func.id
    return node.func.attr if isinstance(node.func, ast.Attribute) else ""


def is_docstring(node):
    return isinstance(node, ast.Expr) and isinstance(node.value, ast.Constant) and isinstance(node.value.value, str)


def is_plain(node):
    """Whether a value of a file's top is a plain one."""
    if isinstance(node, (ast.Tuple, ast.List)):
        return all(is_plain(part) for part in node.elts)
    if isinstance(node, ast.Dict):
        return all(is_plain(part) for part in node.keys + node.values)
    if isinstance(node, ast.UnaryOp):
        return is_plain(node.operand)
    return isinstance(node, ast.Constant)


class Looker:
    """Looks at one file of the package; faults is the list of what it found."""

    def __init__(self, package, name, text):
        self.package = package
        self.name = name
        self.text = text
        self.faults = []
        self.tree = ast.parse(text)
        self.parents = {}
        for node in ast.walk(self.tree):
            for child in ast.iter_child_nodes(node):
                self.parents[child] = node
        self.imports = []
        self.tops = []

    def fault(self, rule, node, words):
        self.faults.append((rule, self.name, getattr(node, "lineno", 0), words))

    def look(self):
        self.look_at_signs()
        self.look_at_top()
        for node in ast.walk(self.tree):
            if isinstance(node, ast.stmt):
                self.look_at_statement(node)
            self.look_at_node(node)
        return self.faults

    def look_at_signs(self):
        lines = self.text.split("\n")
        if len(lines) > 401:
            self.fault("L10", None, "file too long")
        for count, line in enumerate(lines, 1):
            if len(line) > 120:
                self.faults.append(("L10", self.name, count, "line too long"))
            if not all(" " <= sign <= "~" for sign in line):
                self.faults.append(("L14", self.name, count, "sign"))
            if WORDS.search(line):
                self.faults.append(("L17", self.name, count, "word"))

    def look_at_top(self):
        for place, node in enumerate(self.tree.body):
            if place == 0 and is_docstring(node):
                continue
            if isinstance(node, ast.ImportFrom):
                self.look_at_import(node)
            elif isinstance(node, (ast.FunctionDef, ast.ClassDef)):
                self.tops.append(node.name)
            elif isinstance(node, ast.Assign) and isinstance(node.targets[0], ast.Name):
                self.tops.append(node.targets[0].id)
                if not is_plain(node.value):
                    self.fault("L3", node, "no plain value")
            else:
                self.fault("L3", node, "top")
        names = self.tops + self.imports
        if len(set(names)) != len(names):
            self.fault("L15", None, "a name of the top twice")

    def look_at_import(self, node):
        if node.level or not (node.module or "").startswith(self.package + "."):
            self.fault("L2", node, "import")
        for alias in node.names:
            self.imports.append(alias.asname or alias.name)
            if alias.name == "*":
                self.fault("L2", node, "star")

    def look_at_statement(self, node):
        above = isinstance(self.parents[node], ast.Module)
        if isinstance(node, ast.ClassDef):
            self.look_at_class(node, above)
        elif isinstance(node, ast.ImportFrom):
            if not above:
                self.fault("L2", node, "import below the top")
        elif not isinstance(node, STATEMENTS):
            self.fault("L6", node, "statement")
        if isinstance(node, ast.Assign):
            if len(node.targets) != 1 or isinstance(node.targets[0], (ast.Tuple, ast.List)):
                self.fault("L6", node, "several targets")
        if isinstance(node, (ast.For, ast.While)) and node.orelse:
            self.fault("L6", node, "else behind a loop")
        if isinstance(node, ast.Try):
            self.look_at_try(node)
        if isinstance(node, ast.Expr) and not is_docstring(node) and not isinstance(node.value, ast.Call):
            self.fault("L6", node, "no call")
        if isinstance(node, ast.FunctionDef):
            self.look_at_function(node)

    def look_at_class(self, node, above):
        if not above or node.decorator_list or node.keywords or len(node.bases) > 1:
            self.fault("L5", node, "class")
        for part in node.body:
            if not isinstance(part, (ast.FunctionDef, ast.Pass)) and not is_docstring(part):
                self.fault("L5", part, "value in a class body")
        methods = [part.name for part in node.body if isinstance(part, ast.FunctionDef)]
        if len(set(methods)) != len(methods):
            self.fault("L18", node, "a method twice")

    def look_at_try(self, node):
        if node.finalbody:
            self.fault("L6", node, "finally")
        for handler in node.handlers:
            words = ast.unparse(handler.type) if handler.type else ""
            if words in ("", "Exception", "TypeError"):
                self.fault("L19", handler, "handler")

    def look_at_function(self, node):
        given = node.args
        if given.vararg or given.kwarg or given.kwonlyargs or given.posonlyargs or node.decorator_list:
            self.fault("L4", node, "parameters")
        if node.returns or any(one.annotation for one in given.args):
            self.fault("L21", node, "annotation")
        if node.end_lineno - node.lineno + 1 > 40:
            self.fault("L10", node, "function too long")
        bound = [one.arg for one in given.args]
        bound += [one.id for one in ast.walk(node) if isinstance(one, ast.Name) and isinstance(one.ctx, ast.Store)]
        for name in bound:
            if hasattr(builtins, name) or name in self.imports:
                self.fault("L15", node, f"a local is called {name}")

    def look_at_node(self, node):
        if isinstance(node, BANNED):
            self.fault("L7", node, "expression")
        if isinstance(node, ast.Constant) and isinstance(node.value, (float, complex, bytes)):
            self.fault("L7", node, "value")
        if isinstance(node, ast.Constant) and isinstance(node.value, str) and "%" in node.value:
            self.fault("L27", node, "sign in a text")
        if isinstance(node, ast.ListComp) and (len(node.generators) > 1 or len(node.generators[0].ifs) > 1):
            self.fault("L7", node, "comprehension")
        if isinstance(node, ast.FormattedValue) and not isinstance(node.value, ast.Name):
            self.fault("L7", node, "f-string")
        if isinstance(node, ast.Name):
            self.look_at_name(node)
        if isinstance(node, ast.Attribute):
            self.look_at_attribute(node)
        if isinstance(node, ast.Compare):
            self.look_at_compare(node)
        if isinstance(node, ast.Call):
            self.look_at_call(node)
        if isinstance(node, ast.BinOp) and isinstance(node.op, ast.Pow) and not isinstance(node.right, ast.Constant):
            self.fault("L27", node, "power")

    def look_at_name(self, node):
        if node.id.startswith("_") or node.id in BARRED:
            self.fault("L17", node, node.id)
        if isinstance(node.ctx, ast.Load) and hasattr(builtins, node.id) and node.id not in OWN:
            self.fault("L8", node, node.id)

    def look_at_attribute(self, node):
        if node.attr in BARRED or (node.attr.startswith("_") and node.attr != "__init__"):
            self.fault("L17", node, node.attr)
        called_here = isinstance(self.parents[node], ast.Call) and self.parents[node].func is node
        known = any(hasattr(kind, node.attr) for kind in (str, int, list, dict, set, bytes, tuple))
        if called_here and known and node.attr not in METHODS:
            self.fault("L25", node, node.attr)

    def look_at_compare(self, node):
        for sign, part in zip(node.ops, node.comparators):
            if isinstance(sign, (ast.Is, ast.IsNot)):
                if not isinstance(part, ast.Constant) or part.value not in (None, True, False):
                    self.fault("L20", node, "is")

    def look_at_call(self, node):
        name = called(node)
        for one in node.keywords:
            if name in OWN | METHODS and one.arg not in KEYWORDS.get(name, ()):
                self.fault("L22", node, "keyword")
        above = self.parents[node]
        if name in WALKED:
            walked = isinstance(above, ast.comprehension) or isinstance(above, ast.For) and above.iter is node
            within = isinstance(above, ast.Call) and called(above) in WALKERS
            if not walked and not within:
                self.fault("L23", node, "kept")
        if name in ("set", "frozenset"):
            within = isinstance(above, ast.Call) and called(above) in ("sorted", "len")
            if not within and not isinstance(above, (ast.Compare, ast.BinOp)):
                self.fault("L24", node, "set")


def draws_in_a_ring(imports):
    """Whether files draw from one another, imports being a dict of names to the names they draw from."""
    seen = {}

    def walk(name, path):
        if name in path:
            return True
        if name in seen:
            return False
        found = any(walk(other, path + [name]) for other in imports.get(name, []))
        seen[name] = True
        return found

    return any(walk(name, []) for name in imports)


def looked(package, texts):
    """The faults of a package, texts being a dict of file names to their texts."""
    faults = []
    imports = {}
    for name, text in texts.items():
        looker = Looker(package, name, text)
        faults += looker.look()
        imports[name] = []
        for node in looker.tree.body:
            if isinstance(node, ast.ImportFrom):
                source = (node.module or "")[len(package) + 1:] + ".py"
                imports[name].append(source)
                known = top_names(ast.parse(texts.get(source, "")))
                faults += [("L16", name, node.lineno, one.name) for one in node.names if one.name not in known]
    if draws_in_a_ring(imports):
        faults.append(("L16", "", 0, "files draw from one another"))
    return faults + methods_and_values([ast.parse(text) for text in texts.values()])


def methods_and_values(trees):
    """Faults for names that are a method in one class and a value in another."""
    nodes = [node for tree in trees for node in ast.walk(tree)]
    methods = [part.name for node in nodes if isinstance(node, ast.ClassDef)
               for part in node.body if isinstance(part, ast.FunctionDef)]
    values = [node.attr for node in nodes if isinstance(node, ast.Attribute) and isinstance(node.ctx, ast.Store)]
    return [("L18", "", 0, name) for name in sorted(set(methods) & set(values))]


def top_names(tree):
    """The names that a file itself defines."""
    names = [node.name for node in tree.body if isinstance(node, (ast.FunctionDef, ast.ClassDef))]
    return names + [node.targets[0].id for node in tree.body if isinstance(node, ast.Assign)]
