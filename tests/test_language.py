"""Whether each file of the package keeps to the subset of Python in which it is to be written.

These checks look at the rules that a look at the syntax tree can tell; they are no full proof.
"""

import ast
import builtins
import pathlib
import unittest

FOLDER = pathlib.Path(__file__).resolve().parent.parent / "borderwords"
LIBRARY = {
    "heapq": {"heappush", "heappop", "heapify", "heapreplace", "heappushpop"},
    "math": {"gcd", "lcm", "isqrt", "comb", "perm", "factorial"},
    "itertools": {"product", "combinations", "permutations", "chain", "accumulate", "pairwise", "islice",
                  "zip_longest"},
}
BUILTINS = set(
    "len range enumerate zip min max sum abs sorted reversed int str bool list tuple dict set isinstance ord repr "
    "any all divmod super staticmethod property ValueError NotImplementedError NotImplemented KeyError True False "
    "None".split())
STATEMENTS = (
    ast.Assign, ast.AugAssign, ast.If, ast.While, ast.For, ast.Return, ast.Break, ast.Continue, ast.Pass, ast.Raise,
    ast.Assert, ast.Delete, ast.Expr, ast.Try)
METHODS = set(
    "append clear copy count endswith extend find get index insert isalnum isalpha isdigit islower isspace isupper "
    "items join keys ljust lower lstrip partition pop remove replace reverse rfind rjust rpartition rsplit rstrip "
    "setdefault split splitlines startswith strip update upper values zfill bit_length add discard isascii".split())
OWN_ERRORS = {"WordsError"}
NO_NAMES = set(
    "register mro elements open input law version_info with_traceback add_note attrgetter breakpoint builtins compile "
    "copyright credits delattr dir eval exec exit gc getattr globals hasattr help id importlib license locals "
    "methodcaller os quit setattr type vars sys".split())
NO_WORDS = set(
    "type typing typing_extensions enum Enum IntEnum StrEnum Flag IntFlag Generic Protocol ABC ABCMeta namedtuple "
    "NamedTuple TypedDict TYPE_CHECKING abstractmethod".split())
DUNDERS = set("__init__ __eq__ __repr__ __str__ __len__ __bool__ __call__ __iter__ __contains__".split())
NO_ATTRIBUTES = set(dir(str)) | set(dir(int)) | set(dir(list)) | set(dir(dict)) | set(dir(set)) | set(dir(bytes))
FREE_ATTRIBUTES = set("count index title find get join lower upper split strip copy add discard".split())
AT_ONCE = {"zip", "enumerate", "reversed", "range", "items", "keys", "values"}
EATERS = set("list tuple dict sorted sum any all enumerate zip min max len join".split())


def parents_of(tree):
    """A dict from each node of the tree to the one around it."""
    return {child: node for node in ast.walk(tree) for child in ast.iter_child_nodes(node)}


def called_name(node):
    """The name, or the name of the method, that a call calls."""
    return getattr(node.func, "id", getattr(node.func, "attr", None))


class File:
    """One file of the package, and what is found against it."""

    def __init__(self, path):
        self.path = path
        self.text = path.read_text(encoding="utf-8")
        self.tree = ast.parse(self.text)
        self.around = parents_of(self.tree)
        self.faults = []

    def fault(self, node, rule):
        self.faults.append(f"{self.path.name}:{getattr(node, 'lineno', node)}: {rule}")

    def walk(self, *kinds):
        return [node for node in ast.walk(self.tree) if isinstance(node, kinds)]

    def bound(self):
        """The names that the file binds at its module level, imports aside."""
        names = []
        for node in self.tree.body:
            if isinstance(node, (ast.FunctionDef, ast.ClassDef)):
                names.append(node.name)
            if isinstance(node, ast.Assign):
                names.extend(target.id for target in node.targets)
        return names

    def imports(self):
        return [node for node in self.tree.body if isinstance(node, ast.ImportFrom)]

    def classes(self):
        return {node.name for node in self.walk(ast.ClassDef)}


def files():
    return [File(path) for path in sorted(FOLDER.glob("*.py"))]


def check_text(file):
    """L7, L10, L14, L17, L27: characters, sizes, words."""
    lines = file.text.split("\n")
    if len(lines) - 1 > 399:
        file.fault(len(lines), "L10 file")
    for at, line in enumerate(lines, 1):
        if len(line) > 120:
            file.fault(at, "L10 line")
        if any(not " " <= sign <= "~" for sign in line):
            file.fault(at, "L14 character")
    for node in file.walk(ast.FunctionDef):
        if node.end_lineno - node.lineno + 1 > 40:
            file.fault(node, "L10 function")
    for node in file.walk(ast.Constant):
        if isinstance(node.value, (float, complex)):
            file.fault(node, "L7 float")
        if isinstance(node.value, str):
            check_string(file, node)


def check_string(file, node):
    around = file.around[node]
    is_docstring = isinstance(around, ast.Expr)
    if "%" in node.value or node.value.endswith(("._", ".__")) or "__" in node.value:
        file.fault(node, "L27 string")
    if not is_docstring and any(word in node.value.split() for word in NO_WORDS - {"type"}):
        file.fault(node, "L17 word in a string")


def check_module(file, bound):
    """L2, L3, L15, L16: what stands at module level."""
    begun = False
    for at, node in enumerate(file.tree.body):
        if isinstance(node, ast.Expr) and isinstance(node.value, ast.Constant) and at == 0:
            continue
        if isinstance(node, ast.ImportFrom):
            check_import(file, node, bound, begun)
            continue
        begun = True
        if isinstance(node, ast.Assign):
            above = {one.name for one in file.tree.body[:at] if isinstance(one, ast.FunctionDef)}
            if len(node.targets) != 1 or not isinstance(node.targets[0], ast.Name) or not is_plain(node.value, above):
                file.fault(node, "L3 value")
        elif not isinstance(node, (ast.FunctionDef, ast.ClassDef)):
            file.fault(node, "L3 module level")
    names = file.bound() + [alias.name for node in file.imports() for alias in node.names]
    for name in names:
        if names.count(name) > 1 or hasattr(builtins, name):
            file.fault(name, "L15 bound twice, or a builtin")


def is_plain(node, functions=()):
    """Whether a value is written out; functions defined above may stand in it."""
    if isinstance(node, (ast.List, ast.Tuple)):
        return all(is_plain(part, functions) for part in node.elts)
    if isinstance(node, ast.Dict):
        return all(is_plain(part, functions) for part in node.keys + node.values)
    return isinstance(node, ast.Constant) or getattr(node, "id", None) in functions


def check_import(file, node, bound, begun):
    if begun or node.level or any(alias.asname for alias in node.names):
        file.fault(node, "L2 import")
    if node.module in LIBRARY:
        if any(alias.name not in LIBRARY[node.module] for alias in node.names):
            file.fault(node, "L2 library")
        return
    package, _, name = node.module.partition(".")
    if package != "borderwords" or name not in bound:
        file.fault(node, "L2 module")
        return
    for alias in node.names:
        if alias.name not in bound[name]:
            file.fault(node, f"L16 {alias.name} is not defined in {name}")
        uses = [use for use in file.walk(ast.Name) if use.id == alias.name]
        if not uses:
            file.fault(node, f"{alias.name} is not used")


def check_functions(file):
    """L4, L5, L6, L12, L15, L21, L28: functions, classes, statements and names."""
    taken = file.classes() | {alias.name for node in file.imports() for alias in node.names}
    for node in file.walk(ast.FunctionDef):
        decorators = [getattr(one, "id", None) for one in node.decorator_list]
        if decorators and not (isinstance(file.around[node], ast.ClassDef) and decorators == ["staticmethod"]):
            file.fault(node, "L4 decorator")
        if node.name.startswith("__") and node.name not in DUNDERS:
            file.fault(node, "L5 method")
        arguments = node.args
        for one in arguments.args + arguments.kwonlyargs + [arguments.vararg, arguments.kwarg]:
            if one is not None:
                check_name(file, one, one.arg, taken)
                if one.annotation is not None:
                    file.fault(node, "L21 annotation")
        if not all(is_plain(default) or getattr(default, "id", None) in file.bound() for default in arguments.defaults):
            file.fault(node, "L4 default")
        for part in ast.walk(node):
            if isinstance(part, ast.stmt) and part is not node and not isinstance(part, STATEMENTS):
                file.fault(part, "L6 statement")
    for node in file.walk(ast.Name):
        if isinstance(node.ctx, ast.Store):
            inside = node
            while inside in file.around and not isinstance(inside, ast.FunctionDef):
                inside = file.around[inside]
            if isinstance(inside, ast.FunctionDef):
                check_name(file, node, node.id, taken)
            if node.id.startswith("__") or node.id in NO_NAMES:
                file.fault(node, "L12 or L17 name")
    check_returns(file)
    check_tries(file)


def check_name(file, node, name, taken):
    if name in taken:
        file.fault(node, f"L15 {name} is a class or an import")
    if hasattr(builtins, name) or name in NO_NAMES or name.startswith("__"):
        file.fault(node, f"L15 or L17 {name}")


def check_tries(file):
    """L6, L19: own errors alone are caught, and a caught one is raised on, or kept by the one that is raised."""
    for node in file.walk(ast.Try):
        if node.finalbody or node.orelse or len(node.handlers) != 1:
            file.fault(node, "L6 try")
        for handler in node.handlers:
            if getattr(handler.type, "id", None) not in OWN_ERRORS:
                file.fault(handler, "L19 caught")
    for node in file.walk(ast.Raise):
        if not isinstance(node.exc, ast.Call) or not isinstance(node.exc.func, ast.Name):
            file.fault(node, "L19 raise")


def check_returns(file):
    for node in file.walk(ast.FunctionDef):
        returns = [part.value for part in ast.walk(node) if isinstance(part, ast.Return)]
        if node.name == "__len__" and not all(called_name(value) == "len" for value in returns):
            file.fault(node, "L28 __len__")
        if node.name == "__init__" and returns:
            file.fault(node, "L28 __init__")
        if node.name == "__str__":
            for value in returns:
                is_join = isinstance(value, ast.Call) and called_name(value) in ("join", "str")
                if not is_join and not isinstance(value, (ast.JoinedStr, ast.Constant)):
                    file.fault(node, "L28 __str__")


def check_expressions(file, methods):
    """L7, L8, L20, L22 to L25, L27: expressions and calls."""
    bound = set(file.bound()) | {alias.name for node in file.imports() for alias in node.names}
    for node in file.walk(ast.Lambda, ast.NamedExpr, ast.Await, ast.Yield, ast.YieldFrom, ast.GeneratorExp):
        file.fault(node, "an expression that the package does without")
    for node in file.walk(ast.BinOp, ast.AugAssign):
        if isinstance(node.op, (ast.Div, ast.MatMult, ast.Pow, ast.Mod)):
            file.fault(node, "L7 or L27 sign")
    for node in file.walk(ast.Compare):
        for operator, right in zip(node.ops, node.comparators):
            if isinstance(operator, (ast.Is, ast.IsNot)) and not isinstance(right, ast.Constant):
                file.fault(node, "L20 is")
    for node in file.walk(ast.FunctionDef):
        local = {part.id for part in ast.walk(node) if isinstance(part, ast.Name) and isinstance(part.ctx, ast.Store)}
        local |= {part.arg for part in ast.walk(node) if isinstance(part, ast.arg)}
        local |= {part.name for part in ast.walk(node) if isinstance(part, ast.ExceptHandler)}
        for part in ast.walk(node):
            if isinstance(part, ast.Name) and part.id not in local | bound | BUILTINS:
                file.fault(part, f"L8 {part.id}")
    for node in file.walk(ast.Call):
        check_call(file, node, bound, methods)
    for node in file.walk(ast.Set, ast.SetComp):
        check_set(file, node)
    for node in file.walk(ast.JoinedStr):
        if any(isinstance(part, ast.Constant) and isinstance(part.value, str) and file.around[part] is not node
               for part in ast.walk(node) if part is not node):
            file.fault(node, "L27 string in an f-string")


def check_call(file, node, bound, methods):
    name = called_name(node)
    around = file.around[node]
    if isinstance(node.func, ast.Attribute):
        if name not in METHODS | methods:
            file.fault(node, f"L25 {name}")
        if node.keywords:
            file.fault(node, "a method is called by place")
    elif name not in bound and {one.arg for one in node.keywords} - {"key", "default", "reverse", "strict", "start"}:
        file.fault(node, "L22 keyword")
    if name in AT_ONCE and name not in bound:
        at_loop = isinstance(around, (ast.For, ast.comprehension)) and around.iter is node
        eaten = isinstance(around, ast.Call) and called_name(around) in EATERS and around.args[0] is node
        if not at_loop and not eaten:
            file.fault(node, "L23 not iterated at once")
    if name == "set":
        check_set(file, node)


def check_set(file, node):
    around = file.around[node]
    is_kept = isinstance(around, ast.Assign) and isinstance(around.targets[0], ast.Name)
    is_eaten = (isinstance(around, ast.Call) and called_name(around) in ("sorted", "len") and not around.keywords)
    is_compared = isinstance(around, ast.Compare)
    if not (is_kept or is_eaten or is_compared):
        file.fault(node, "L24 set")


def check_classes(file, every):
    """L18, L26: classes, methods and attributes; `every` are the classes of all files."""
    names = {name for other in every for name in other.classes()}
    for node in file.walk(ast.Name):
        if node.id in names and isinstance(node.ctx, ast.Load):
            around = file.around[node]
            further = file.around.get(around)
            is_called = isinstance(around, ast.Call) and around.func is node
            is_base = isinstance(around, ast.ClassDef)
            is_value = isinstance(around, ast.Attribute)
            is_asked = any(isinstance(one, ast.Call) and called_name(one) == "isinstance" for one in (around, further))
            is_caught = isinstance(around, ast.ExceptHandler)
            if not (is_called or is_base or is_value or is_asked or is_caught):
                file.fault(node, f"L18 {node.id}")
    for node in file.walk(ast.ClassDef):
        methods = [part.name for part in node.body if isinstance(part, ast.FunctionDef)]
        attributes = stored(node)
        for name in set(methods):
            if methods.count(name) > 1 or name in attributes:
                file.fault(node, f"L18 {name}")
        for name in attributes | set(methods) - DUNDERS:
            if name in NO_ATTRIBUTES - FREE_ATTRIBUTES or name in ("sort", "args", "format", "mro"):
                file.fault(node, f"L26 {name}")


def stored(tree):
    """The attributes that are assigned below this node."""
    return {node.attr for node in ast.walk(tree) if isinstance(node, ast.Attribute) and isinstance(node.ctx, ast.Store)}


def check_cycles(every):
    """L16: files that import one another, in however many steps."""
    reach = {file.path.stem: {node.module.partition(".")[2] for node in file.imports()} for file in every}
    for _ in every:
        reach = {name: to | {far for near in to for far in reach.get(near, ())} for name, to in reach.items()}
    return [name for name, to in reach.items() if name in to]


class Language(unittest.TestCase):
    """The package keeps to its subset of Python."""

    def test_each_file(self):
        every = files()
        bound = {file.path.stem: file.bound() for file in every}
        methods = {part.name for file in every for node in file.walk(ast.ClassDef)
                   for part in node.body if isinstance(part, ast.FunctionDef)}
        attributes = set().union(*[stored(file.tree) for file in every]) | methods | METHODS
        attributes |= {"__class__", "__name__", "__init__"}
        attributes |= {target.id for file in every for node in file.walk(ast.ClassDef) for part in node.body
                       if isinstance(part, ast.Assign) for target in part.targets}
        for file in every:
            check_text(file)
            check_module(file, bound)
            check_functions(file)
            check_expressions(file, methods)
            check_classes(file, every)
            for node in file.walk(ast.Attribute):
                if node.attr not in attributes:
                    file.fault(node, f"L18 no class has {node.attr}")
            with self.subTest(file=file.path.name):
                self.assertEqual(file.faults, [])

    def test_files(self):
        self.assertEqual(check_cycles(files()), [])
        for path in FOLDER.iterdir():
            if path.name != "__pycache__":
                self.assertRegex(path.name, "^[a-z0-9_]+[.]py$")
        classes = [name for file in files() for name in file.classes()]
        self.assertEqual(len(classes), len(set(classes)), "papers of one name would be taken for one class")


if __name__ == "__main__":
    unittest.main()
