"""What a script can see of the rules L1 to L28 that the files of the package follow.

`faults_of(folder)` returns a sorted list of strings "RULE FILE:LINE what". It reads the files as
text and runs none of them.
"""

import ast
import builtins
import io
import os
import re
import tokenize

BUILTINS = set("""
len range enumerate zip min max sum abs sorted reversed int str bool bytes list tuple dict set
frozenset isinstance ord repr any all divmod pow getattr hasattr setattr iter next map super property
staticmethod classmethod NotImplemented Exception ValueError TypeError KeyError IndexError LookupError
ZeroDivisionError ArithmeticError OverflowError RuntimeError NotImplementedError AttributeError
StopIteration""".split())

METHODS = set("""
append clear copy count endswith extend find get index insert isalnum isalpha isdigit islower isspace
isupper items join keys ljust lower lstrip partition pop remove replace reverse rfind rjust rpartition
rsplit rstrip setdefault split splitlines startswith strip update upper values zfill bit_length
title capitalize swapcase casefold center expandtabs removeprefix removesuffix rindex isascii isdecimal
isnumeric istitle isidentifier isprintable sort add discard""".split())

LIBRARY = {
    "heapq": {"heappush", "heappop", "heapify", "heapreplace", "heappushpop"},
    "math": {"gcd", "lcm", "isqrt", "comb", "perm", "factorial"},
    "itertools": {"product", "combinations", "permutations", "chain", "accumulate", "pairwise", "islice",
                  "zip_longest"},
    "collections": {"defaultdict"},
}

SPECIAL_METHODS = set("""
__init__ __eq__ __repr__ __str__ __len__ __enter__ __exit__ __call__ __iter__
__lt__ __le__ __gt__ __ge__ __ne__ __add__ __sub__ __mul__ __floordiv__ __mod__ __pow__ __and__ __or__
__xor__ __lshift__ __rshift__ __radd__ __rsub__ __rmul__ __rfloordiv__ __rmod__ __rand__ __ror__ __rxor__
__rlshift__ __rrshift__ __iadd__ __isub__ __imul__ __ifloordiv__ __imod__ __ipow__ __iand__ __ior__
__ixor__ __ilshift__ __irshift__ __neg__ __pos__ __invert__ __abs__ __bool__ __contains__ __getitem__
__setitem__""".split())

NEVER_NAMES = {"register", "mro", "elements", "open", "input", "law", "version_info", "with_traceback", "add_note"}

NOT_ATTRIBUTES = set("""
items keys values pop update append clear extend insert remove reverse setdefault sort args encode decode
hex fromhex format format_map mro as_integer_ratio bit_count conjugate from_bytes is_integer
to_bytes""".split())

NOT_VARIABLES = set("""
attrgetter breakpoint builtins compile copyright credits delattr dir eval exec exit gc getattr globals
hasattr help id importlib license locals methodcaller os quit setattr super type vars sys""".split())

WORDS = set("""
type typing typing_extensions enum Enum IntEnum StrEnum Flag IntFlag Generic Protocol ABC ABCMeta
namedtuple NamedTuple TypedDict TYPE_CHECKING abstractmethod""".split())

PARTS_OF_WORDS = ("dataclass", "overload", "contextmanager")

FILE_NAMES_BARRED = {"test", "tests", "testing", "site", "conftest", "sitecustomize", "usercustomize"}

# An interactive session adds the name _, which is free here.
PYTHON_NAMES = {name for name in dir(builtins) if name != "_"}

FREE_ERRORS = {"KeyError", "ZeroDivisionError", "StopIteration"}

STATEMENTS = (
    ast.Assign, ast.AugAssign, ast.If, ast.While, ast.For, ast.Return, ast.Break, ast.Continue, ast.Pass,
    ast.Raise, ast.Assert, ast.Delete, ast.Nonlocal, ast.Match, ast.With, ast.Try, ast.Expr, ast.FunctionDef,
    ast.ClassDef, ast.ImportFrom)

TAKES_GENERATORS = {"list", "tuple", "dict", "sorted", "sum", "min", "max", "any", "all"}
TAKES_ZIPS = TAKES_GENERATORS | {"enumerate", "zip"}
BUILTIN_KEYWORDS = {
    "sorted": {"key", "reverse"}, "min": {"key", "default"}, "max": {"key", "default"}, "sum": {"start"},
    "enumerate": {"start"}, "zip": {"strict"}}

FUNCTIONS = (ast.FunctionDef, ast.Lambda)
COMPREHENSIONS = (ast.ListComp, ast.SetComp, ast.DictComp, ast.GeneratorExp)


class Package:
    """What the files of one package define together."""

    def __init__(self, name, texts):
        self.name = name
        self.trees = {file: ast.parse(text) for file, text in texts.items()}
        self.texts = texts
        self.methods = set()
        self.errors = set()
        self.top = {}
        for file, tree in self.trees.items():
            self.top[file] = set()
            for node in tree.body:
                self.top[file].update(bound_names(node))
                if isinstance(node, ast.ClassDef):
                    self.methods.update(part.name for part in node.body if isinstance(part, ast.FunctionDef))
        self.find_errors()

    def find_errors(self):
        known = {"ValueError", "Exception"}
        for _ in range(3):
            for tree in self.trees.values():
                for node in tree.body:
                    if isinstance(node, ast.ClassDef):
                        if any(isinstance(base, ast.Name) and base.id in known for base in node.bases):
                            known.add(node.name)
        self.errors = known - {"ValueError", "Exception"}


def bound_names(node):
    """The names that a statement at module level binds."""
    if isinstance(node, (ast.FunctionDef, ast.ClassDef)):
        return [node.name]
    if isinstance(node, ast.ImportFrom):
        return [name.asname or name.name for name in node.names]
    if isinstance(node, ast.Assign):
        return [target.id for target in node.targets if isinstance(target, ast.Name)]
    return []


class FileCheck:
    """The faults of one file."""

    def __init__(self, package, file):
        self.package = package
        self.file = file
        self.text = package.texts[file]
        self.tree = package.trees[file]
        self.found = []
        self.parents = {}
        for node in ast.walk(self.tree):
            for child in ast.iter_child_nodes(node):
                self.parents[child] = node
        self.imports = {}
        for node in self.tree.body:
            if isinstance(node, ast.ImportFrom):
                for name in node.names:
                    self.imports[name.name] = node.module
        self.classes = {node.name for node in self.tree.body if isinstance(node, ast.ClassDef)}

    def fault(self, rule, node, what):
        line = node if isinstance(node, int) else getattr(node, "lineno", 1)
        self.found.append(f"{rule} {self.file}:{line} {what}")

    def run(self):
        self.check_lines()
        self.check_words()
        self.check_top()
        for node in ast.walk(self.tree):
            self.check_statement(node)
            self.check_expression(node)
            self.check_call(node)
            self.check_names(node)
            self.check_function(node)
            self.check_class(node)
        return self.found

    # Characters, sizes and words.

    def check_lines(self):
        lines = self.text.split("\n")
        if not self.text.endswith("\n"):
            self.fault("L10", len(lines), "no newline at the end")
        if len(lines) - 1 > 399:
            self.fault("L10", len(lines), "more than 399 lines")
        for number, line in enumerate(lines, 1):
            if len(line) > 120:
                self.fault("L10", number, "more than 120 characters")
            if any(not " " <= sign <= "~" for sign in line):
                self.fault("L14", number, "a character outside of the space to ~")
            if re.search(r"\b_wall\b|_WallAttr", line):
                self.fault("L12", number, "a barred word")

    def check_words(self):
        documented = {id(node.value) for node in ast.walk(self.tree) if is_docstring(self.parents, node)}
        doc_lines = set()
        for node in ast.walk(self.tree):
            if id(node) in documented:
                doc_lines.update(range(node.lineno, node.end_lineno + 1))
        for token in tokenize.generate_tokens(io.StringIO(self.text).readline):
            row = token.start[0]
            if token.type == tokenize.COMMENT or (token.type == tokenize.STRING and row in doc_lines):
                continue
            for word in re.findall(r"\w+", token.string):
                if word in WORDS or any(part in word for part in PARTS_OF_WORDS):
                    self.fault("L17", row, f"the word {word}")
            if token.type == tokenize.STRING and re.search(r"\\[^nt\\'\"]", token.string):
                self.fault("L27", row, "an escape")
        for node in ast.walk(self.tree):
            if isinstance(node, ast.Constant) and isinstance(node.value, str):
                self.check_string(node)

    def check_string(self, node):
        if "%" in node.value:
            self.fault("L27", node, "% in a string")
        if node.value.endswith(("._", ".__")):
            self.fault("L27", node, "a string that ends in ._")
        if len(node.value) > 3 and node.value.startswith("__") and node.value.endswith("__"):
            if node.value != "__main__":
                self.fault("L27", node, "a string between underscores")

    # The module level.

    def check_top(self):
        seen = set()
        imports_end = False
        for at, node in enumerate(self.tree.body):
            for name in bound_names(node):
                if name in seen:
                    self.fault("L15", node, f"{name} is bound twice")
                seen.add(name)
            if isinstance(node, ast.ImportFrom):
                if imports_end:
                    self.fault("L2", node, "an import below other code")
                self.check_import(node)
            elif isinstance(node, ast.Assign):
                imports_end = True
                if len(node.targets) != 1 or not isinstance(node.targets[0], ast.Name) or not is_plain(node.value):
                    self.fault("L3", node, "not a name with a plain value")
            elif isinstance(node, (ast.FunctionDef, ast.ClassDef)):
                imports_end = True
                if node.decorator_list:
                    self.fault("L4", node, "a decorator")
            elif not (at == 0 and is_docstring(self.parents, node)):
                self.fault("L3", node, "code at module level")

    def check_import(self, node):
        if node.level or any(name.asname or name.name == "*" for name in node.names):
            self.fault("L2", node, "a form of import that is not allowed")
        elif node.module in LIBRARY:
            for name in node.names:
                if name.name not in LIBRARY[node.module]:
                    self.fault("L2", node, f"{name.name} of {node.module}")
        elif not node.module.startswith(self.package.name + "."):
            self.fault("L2", node, f"an import from {node.module}")
        else:
            file = node.module[len(self.package.name) + 1:].replace(".", "/") + ".py"
            for name in node.names:
                if name.name not in self.package.top.get(file, ()):
                    self.fault("L16", node, f"{file} does not have {name.name}")
                elif any(isinstance(part, ast.ImportFrom) and name.name in bound_names(part)
                         for part in self.package.trees[file].body):
                    self.fault("L16", node, f"{file} does not define {name.name}")

    # Statements.

    def check_statement(self, node):
        if isinstance(node, ast.stmt) and not isinstance(node, STATEMENTS):
            rule = {ast.AnnAssign: "L21", ast.Import: "L2"}.get(type(node), "L6")
            self.fault(rule, node, type(node).__name__)
        if isinstance(node, ast.ImportFrom) and self.parents[node] is not self.tree:
            self.fault("L2", node, "an import inside of a function or a class")
        if isinstance(node, ast.Expr) and not is_docstring(self.parents, node):
            if not isinstance(node.value, (ast.Call, ast.Yield, ast.YieldFrom)):
                self.fault("L6", node, "an expression on its own")
        if isinstance(node, ast.ExceptHandler):
            self.check_handler(node)
        if isinstance(node, ast.Raise) and node.exc is not None:
            made = node.exc
            if not (isinstance(made, ast.Call) and isinstance(made.func, ast.Name)):
                self.fault("L19", node, "an error that is not created on the spot")
            elif made.func.id not in self.package.errors | {"TypeError", "ValueError"}:
                self.fault("L19", node, "no error class")
        if isinstance(node, ast.For):
            changed = set(modified_lists(node.body))
            if any(isinstance(part, ast.Name) and part.id in changed for part in iterated_parts(node.iter)):
                self.fault("L23", node, "what the loop iterates over is changed in it")

    def check_handler(self, node):
        caught = node.type.elts if isinstance(node.type, ast.Tuple) else [node.type]
        for kind in caught:
            if not isinstance(kind, ast.Name):
                self.fault("L19", node, "an except without a named error class")
            elif kind.id not in self.package.errors | FREE_ERRORS:
                self.fault("L19", node, f"{kind.id} is caught")

    # Expressions.

    def check_expression(self, node):
        if isinstance(node, ast.Constant) and isinstance(node.value, (float, complex, bytes, type(...))):
            self.fault("L7", node, "a value of a barred kind")
        if isinstance(node, (ast.BinOp, ast.AugAssign)) and isinstance(node.op, (ast.Div, ast.MatMult)):
            self.fault("L7", node, "an operator that is not allowed")
        if isinstance(node, ast.BinOp) and isinstance(node.op, ast.Pow):
            if not (isinstance(node.right, ast.Constant) and node.right.value in range(65)):
                self.fault("L27", node, "an exponent that is not literal")
        if isinstance(node, ast.Compare):
            for op, right in zip(node.ops, node.comparators):
                if isinstance(op, (ast.Is, ast.IsNot)):
                    if not (isinstance(right, ast.Constant) and right.value in (None, True, False)
                            and not is_number(right)):
                        self.fault("L20", node, "is beside another value")
        if isinstance(node, ast.GeneratorExp) and not self.stands_in_call(node, TAKES_GENERATORS):
            self.fault("L7", node, "a generator expression out of place")
        if isinstance(node, ast.JoinedStr) and node.lineno != node.end_lineno:
            self.fault("L27", node, "an f-string over two lines")
        if isinstance(node, ast.NamedExpr) and not isinstance(self.parents[node], (ast.If, ast.While, ast.Compare)):
            self.fault("L7", node, ":= out of place")
        if is_set(node) and not self.is_set_in_place(node):
            self.fault("L24", node, "a set out of place")
        if isinstance(node, ast.Set) and len(node.elts) > 2:
            if not isinstance(self.parents[node], ast.Compare):
                self.fault("L13", node, "a literal set with more than two members")

    def stands_in_call(self, node, names):
        parent = self.parents[node]
        if not isinstance(parent, ast.Call) or node not in parent.args:
            return False
        if isinstance(parent.func, ast.Attribute):
            return parent.func.attr == "join" and isinstance(parent.func.value, ast.Constant)
        return isinstance(parent.func, ast.Name) and parent.func.id in names

    def is_set_in_place(self, node):
        parent = self.parents[node]
        if isinstance(parent, ast.BinOp) and isinstance(parent.op, (ast.Sub, ast.BitAnd, ast.BitOr, ast.BitXor)):
            return self.is_set_in_place(parent)
        if isinstance(parent, ast.Compare):
            return isinstance(parent.ops[0], (ast.In, ast.NotIn)) or is_set(parent.left)
        if isinstance(parent, ast.Assign):
            return len(parent.targets) == 1 and isinstance(parent.targets[0], ast.Name)
        return self.stands_in_call(node, {"sorted", "len"})

    # Calls.

    def check_call(self, node):
        if not isinstance(node, ast.Call):
            return
        for part in node.args:
            if isinstance(part, ast.Starred) and not isinstance(part.value, (ast.Name, ast.Attribute)):
                self.fault("L7", node, "a star before something that is no name")
        if isinstance(node.func, ast.Attribute):
            if node.func.attr not in METHODS | self.package.methods:
                self.fault("L25", node, f"the method {node.func.attr}")
            elif node.func.attr in METHODS - self.package.methods and node.keywords:
                self.fault("L22", node, f"a keyword of {node.func.attr}")
        if isinstance(node.func, ast.Name):
            self.check_builtin_call(node, node.func.id)
        view = isinstance(node.func, ast.Attribute) and node.func.attr in ("items", "keys", "values")
        if view or (isinstance(node.func, ast.Name) and node.func.id in ("zip", "enumerate", "reversed", "range")):
            if not self.is_iterated_at_once(node):
                self.fault("L23", node, "not iterated at once")

    def check_builtin_call(self, node, name):
        if name in ("bytes", "chr", "print"):
            self.fault("L8", node, f"a call of {name}")
        if name == "super" and (node.args or not isinstance(self.parents[node], ast.Attribute) or self.method_around(node) is None):
            self.fault("L5", node, "super out of place")
        if name in BUILTINS and name not in self.imports:
            for keyword in node.keywords:
                if keyword.arg not in BUILTIN_KEYWORDS.get(name, ()):
                    self.fault("L22", node, f"the keyword {keyword.arg} of {name}")

    def is_iterated_at_once(self, node):
        parent = self.parents[node]
        if isinstance(parent, (ast.For, ast.comprehension)):
            return parent.iter is node
        if isinstance(parent, ast.Assign):
            return isinstance(parent.targets[0], ast.Name) and len(parent.targets) == 1
        if isinstance(parent, ast.Compare):
            return isinstance(parent.ops[0], (ast.In, ast.NotIn)) and parent.comparators[0] is node
        if self.stands_in_call(node, {"len"}):
            return not isinstance(node.func, ast.Name) or node.func.id == "range"
        if self.stands_in_call(node, {"reversed"}):
            return isinstance(node.func, ast.Name) and node.func.id == "range"
        return self.stands_in_call(node, TAKES_ZIPS)

    def method_around(self, node):
        """The name of the method in whose rows the node stands directly, or None."""
        while not isinstance(node, (ast.FunctionDef, ast.Lambda, ast.Module, *COMPREHENSIONS)):
            node = self.parents[node]
        in_class = isinstance(node, ast.FunctionDef) and isinstance(self.parents[node], ast.ClassDef)
        return node.name if in_class and not node.decorator_list else None

    def is_base_call(self, node):
        """Is the attribute the constructor of a base class, called in a constructor?"""
        parent = self.parents[node]
        if node.attr != "__init__" or not (isinstance(parent, ast.Call) and parent.func is node):
            return False
        above = node.value.func if isinstance(node.value, ast.Call) else node.value
        named = isinstance(above, ast.Name) and (above.id == "super" or above.id in self.classes | set(self.imports))
        return named and self.method_around(node) == "__init__"

    # Names.

    def check_names(self, node):
        if isinstance(node, ast.Name):
            if isinstance(node.ctx, ast.Load):
                self.check_loaded(node)
            else:
                self.check_bound(node, node.id)
        if isinstance(node, ast.arg):
            self.check_bound(node, node.arg)
            if node.annotation is not None:
                self.fault("L21", node, "an annotation")
        if isinstance(node, ast.ExceptHandler) and node.name:
            self.check_bound(node, node.name)
        if isinstance(node, ast.Attribute):
            if node.attr in NEVER_NAMES or (node.attr.startswith("__") and not self.is_base_call(node)):
                self.fault("L17", node, f"the attribute {node.attr}")
            if isinstance(node.ctx, ast.Store) and node.attr in NOT_ATTRIBUTES:
                self.fault("L26", node, f"the attribute {node.attr}")

    def check_loaded(self, node):
        name = node.id
        if name == "_":
            self.fault("L12", node, "_ is read")
        elif name.startswith("__"):
            self.fault("L8", node, name)
        elif name in PYTHON_NAMES:
            if name not in BUILTINS:
                self.fault("L8", node, f"the builtin {name}")
            elif name not in ("int", "str", "bool", "list", "tuple", "dict", "NotImplemented"):
                self.check_builtin_is_called(node, name)
        elif name in self.classes | self.package.errors and not self.is_class_in_place(node):
            self.fault("L18", node, f"the class {name} as a value")

    def check_builtin_is_called(self, node, name):
        parent = self.parents[node]
        if isinstance(parent, ast.Call) and parent.func is node:
            return
        if isinstance(parent, ast.keyword) and parent.arg == "key" and name in ("len", "abs", "sum", "min", "max"):
            return
        if isinstance(parent, (ast.ExceptHandler, ast.ClassDef, ast.Tuple)) and name.endswith(("Error", "Exception")):
            return
        if name in ("property", "staticmethod", "classmethod") and isinstance(parent, ast.FunctionDef):
            return
        self.fault("L22", node, f"{name} as a value")

    def is_class_in_place(self, node):
        parent = self.parents[node]
        if isinstance(parent, ast.Call):
            func = parent.func
            return func is node or (isinstance(func, ast.Name) and func.id == "isinstance" and parent.args[0] is not node)
        if isinstance(parent, ast.Attribute):
            return isinstance(self.parents[parent], ast.Call) or parent.attr.isupper() or "_" in parent.attr
        return isinstance(parent, (ast.ClassDef, ast.ExceptHandler, ast.Tuple))

    def check_bound(self, node, name):
        if not re.fullmatch(r"_?[A-Za-z][A-Za-z0-9_]*|_", name):
            self.fault("L12", node, f"the name {name}")
        if name in PYTHON_NAMES:
            self.fault("L15", node, f"the builtin's name {name}")
        if name in NEVER_NAMES | NOT_VARIABLES:
            self.fault("L17", node, f"the name {name}")
        if name in self.imports or name in self.classes:
            self.fault("L15", node, f"{name} is an import or a class of this file")

    # Functions and classes.

    def check_function(self, node):
        if not isinstance(node, ast.FunctionDef):
            return
        if node.end_lineno - node.lineno + 1 > 40:
            self.fault("L10", node, "more than 40 lines")
        if node.returns is not None:
            self.fault("L21", node, "an annotation")
        in_class = isinstance(self.parents[node], ast.ClassDef)
        if node.name in NEVER_NAMES or (not in_class and node.name in NOT_VARIABLES | PYTHON_NAMES):
            self.fault("L17", node, f"the name {node.name}")
        if node.name.startswith("__") and not (in_class and node.name in SPECIAL_METHODS):
            self.fault("L5", node, f"the name {node.name}")
        if not in_class and self.parents[node] is not self.tree and (node.name in self.imports):
            self.fault("L15", node, f"{node.name} is an import of this file")
        for default in node.args.defaults + [value for value in node.args.kw_defaults if value is not None]:
            if not is_plain(default):
                self.fault("L4", node, "a default value that is not plain")
        for mark in node.decorator_list:
            named = isinstance(mark, ast.Name) and mark.id in ("property", "staticmethod", "classmethod")
            setter = isinstance(mark, ast.Attribute) and mark.attr == "setter"
            if not in_class or not (named or setter) or len(node.decorator_list) > 1:
                self.fault("L4", node, "a decorator")

    def check_class(self, node):
        if not isinstance(node, ast.ClassDef):
            return
        if self.parents[node] is not self.tree:
            self.fault("L15", node, "a class inside of something")
        if node.keywords or any(not isinstance(base, ast.Name) for base in node.bases):
            self.fault("L5", node, "a base class that is no name")
        seen = set()
        for at, part in enumerate(node.body):
            if isinstance(part, ast.FunctionDef):
                if part.name in seen and not any(isinstance(mark, ast.Attribute) for mark in part.decorator_list):
                    self.fault("L18", part, f"{part.name} is defined twice")
                seen.add(part.name)
                if part.name == "__exit__":
                    for row, what in ExitCheck(node).run():
                        self.fault("L6", row, what)
                if part.name in NOT_ATTRIBUTES & {"decode", "encode", "format", "hex", "sort"}:
                    self.fault("L26", part, f"the method {part.name}")
            elif isinstance(part, ast.Assign):
                if not is_plain(part.value):
                    self.fault("L5", part, "a class value that is not plain")
            elif not (at == 0 and is_docstring(self.parents, part)):
                self.fault("L5", part, "something else in a class")


class ExitCheck:
    """What rule L6 With bars from the __exit__ of a class and from the methods that it calls.

    It lets only the plainest forms of the rule: attributes are those of self and of the one local name.
    """

    def __init__(self, owner):
        self.methods = {part.name: part for part in owner.body if isinstance(part, ast.FunctionDef)}
        self.found = []
        # The rule allows one short name for an attribute of self, in all of these methods together.
        self.short = []

    def run(self):
        method = self.methods["__exit__"]
        names = [arg.arg for arg in method.args.args]
        if not (names == ["self", "kind", "value", "trace"] or (names == ["self"] and method.args.vararg is not None)):
            self.found.append((method, "the parameters of __exit__"))
        self.check_rows(method.body, True)
        return self.found

    def check_rows(self, rows, in_exit):
        for row in rows:
            if isinstance(row, ast.If):
                if not self.is_test(row.test, in_exit):
                    self.found.append((row, "a test in __exit__"))
                self.check_rows(row.body + row.orelse, in_exit)
            elif in_exit and self.is_call_of_method(row):
                self.check_rows(self.methods[row.value.func.attr].body, False)
            elif not self.is_row(row):
                self.found.append((row, "a row of __exit__ or of a method that it calls"))

    def is_call_of_method(self, row):
        if not (isinstance(row, ast.Expr) and isinstance(row.value, ast.Call) and self.is_attribute(row.value.func)):
            return False
        call = row.value
        return call.func.value.id == "self" and call.func.attr in self.methods and not call.args + call.keywords

    def is_row(self, row):
        if isinstance(row, ast.Pass):
            return True
        if isinstance(row, ast.Return):
            return row.value is None or (isinstance(row.value, ast.Constant) and row.value.value in (None, False)
                                         and not is_number(row.value))
        if isinstance(row, ast.Assign) and len(row.targets) == 1:
            if isinstance(row.targets[0], ast.Name):
                return self.is_short_name(row)
            return self.is_attribute(row.targets[0]) and self.is_simple(row.value)
        if isinstance(row, ast.AugAssign):
            return self.is_attribute(row.target) and is_number(row.value) and isinstance(row.op, (ast.Add, ast.Sub))
        return isinstance(row, ast.Expr) and self.is_change_of_list(row.value)

    def is_short_name(self, row):
        self.short.append(row.targets[0].id)
        return len(self.short) == 1 and self.is_attribute(row.value) and row.value.value.id == "self"

    def is_change_of_list(self, call):
        if not (isinstance(call, ast.Call) and isinstance(call.func, ast.Attribute)) or call.keywords:
            return False
        if not (self.is_attribute(call.func.value) or self.is_local(call.func.value)):
            return False
        if call.func.attr == "append":
            return len(call.args) == 1 and self.is_simple(call.args[0])
        return call.func.attr == "clear" and call.args == []

    def is_local(self, node):
        return isinstance(node, ast.Name) and node.id in self.short

    def is_attribute(self, node):
        if not (isinstance(node, ast.Attribute) and isinstance(node.value, ast.Name)):
            return False
        return node.value.id == "self" or node.value.id in self.short

    def is_simple(self, node):
        if isinstance(node, (ast.Tuple, ast.List)):
            return all(self.is_simple(part) for part in node.elts)
        return isinstance(node, ast.Constant) or self.is_local(node) or self.is_attribute(node)

    def is_test(self, node, in_exit):
        if isinstance(node, ast.BoolOp):
            return all(self.is_test(part, in_exit) for part in node.values)
        if isinstance(node, ast.UnaryOp):
            return isinstance(node.op, ast.Not) and self.is_test(node.operand, in_exit)
        if isinstance(node, ast.Compare):
            asked = self.is_local(node.left) or self.is_attribute(node.left)
            if in_exit and isinstance(node.left, ast.Name) and node.left.id == "kind":
                asked = isinstance(node.ops[0], (ast.Is, ast.IsNot))
            return asked and len(node.ops) == 1 and isinstance(node.comparators[0], ast.Constant)
        return self.is_local(node) or self.is_attribute(node)


def is_docstring(parents, node):
    """Is the statement the docstring of a file, a class or a function?"""
    if not (isinstance(node, ast.Expr) and isinstance(node.value, ast.Constant) and isinstance(node.value.value, str)):
        return False
    parent = parents[node]
    return isinstance(parent, (ast.Module, ast.ClassDef, ast.FunctionDef)) and parent.body[0] is node


def is_number(node):
    """Is the expression a literal number? True and False are none."""
    return isinstance(node, ast.Constant) and isinstance(node.value, int) and not isinstance(node.value, bool)


def is_plain(node):
    """Is the expression a plain value, as at module level?"""
    if isinstance(node, ast.Constant):
        return True
    if isinstance(node, ast.UnaryOp):
        return isinstance(node.op, ast.USub) and is_plain(node.operand)
    if isinstance(node, (ast.Tuple, ast.List)):
        return all(is_plain(part) or isinstance(part, ast.Name) for part in node.elts)
    if isinstance(node, ast.Dict):
        return all(is_plain(part) or isinstance(part, ast.Name) for part in [*node.keys, *node.values])
    return False


def is_set(node):
    """Does the expression make a set?"""
    if isinstance(node, (ast.Set, ast.SetComp)):
        return True
    return isinstance(node, ast.Call) and isinstance(node.func, ast.Name) and node.func.id in ("set", "frozenset")


def iterated_parts(node):
    """What a loop over this expression iterates over."""
    if isinstance(node, ast.Call) and isinstance(node.func, ast.Name) and node.func.id in ("enumerate", "zip", "reversed"):
        return [part for arg in node.args for part in iterated_parts(arg)]
    if isinstance(node, ast.Call) and isinstance(node.func, ast.Attribute):
        return [node.func.value] if node.func.attr in ("items", "keys", "values") else []
    return [node]


def modified_lists(body):
    """The names of the lists and dicts that the statements change."""
    changing = ("append", "clear", "extend", "insert", "pop", "remove", "reverse", "setdefault", "update", "sort")
    for statement in body:
        for node in ast.walk(statement):
            if isinstance(node, ast.Call) and isinstance(node.func, ast.Attribute) and node.func.attr in changing:
                if isinstance(node.func.value, ast.Name):
                    yield node.func.value.id
            if isinstance(node, ast.Subscript) and not isinstance(node.ctx, ast.Load):
                if isinstance(node.value, ast.Name):
                    yield node.value.id


# What these methods and the functions that they call do must change nothing that they did not create.
CHANGING_METHODS = ("__init__", "__enter__", "__exit__", "__call__", "__setitem__", "__iter__")


def pure_roots(package):
    """The operators and properties of the package, with their files."""
    for file, tree in package.trees.items():
        for node in tree.body:
            for part in node.body if isinstance(node, ast.ClassDef) else ():
                if isinstance(part, ast.FunctionDef):
                    operator = part.name.startswith("__") and part.name not in CHANGING_METHODS
                    marked = any(isinstance(mark, ast.Name) and mark.id == "property" for mark in part.decorator_list)
                    if marked or (operator and not part.name.startswith("__i")):
                        yield file, part


def reached_functions(package):
    """Pairs of a file and a function that an operator or a property calls, directly or not."""
    by_name = {}
    for file, tree in package.trees.items():
        for node in tree.body:
            if isinstance(node, ast.FunctionDef):
                by_name.setdefault(node.name, []).append((file, node))
            for part in node.body if isinstance(node, ast.ClassDef) else ():
                if isinstance(part, ast.FunctionDef):
                    name = node.name if part.name == "__init__" else part.name
                    by_name.setdefault(name, []).append((file, part))
    todo = list(pure_roots(package))
    reached = []
    while todo:
        file, function = todo.pop()
        if (file, function) not in reached:
            reached.append((file, function))
            for node in ast.walk(function):
                if isinstance(node, ast.Call):
                    name = node.func.id if isinstance(node.func, ast.Name) else getattr(node.func, "attr", "")
                    todo.extend(by_name.get(name, ()))
    return reached


def created_names(function):
    """The local names that are only ever assigned a list, dict or set that the function makes."""
    made, other = set(), {arg.arg for arg in ast.walk(function) if isinstance(arg, ast.arg)}
    for node in ast.walk(function):
        if isinstance(node, ast.Assign):
            fresh = isinstance(node.value, (ast.List, ast.Dict, ast.Set, ast.ListComp, ast.DictComp, ast.SetComp))
            if isinstance(node.value, ast.Call) and isinstance(node.value.func, ast.Name):
                fresh = node.value.func.id in ("list", "dict", "set", "sorted")
            for target in node.targets:
                if isinstance(target, ast.Name):
                    (made if fresh else other).add(target.id)
    return made - other


def changes(package):
    """What operators and properties change although they must not."""
    changing = ("append", "clear", "extend", "insert", "pop", "remove", "reverse", "setdefault", "update", "sort", "add",
                "discard")
    for file, function in reached_functions(package):
        created = created_names(function)
        arguments = {arg.arg for arg in ast.walk(function) if isinstance(arg, ast.arg)}
        for node in ast.walk(function):
            changed = None
            if isinstance(node, (ast.Attribute, ast.Subscript)) and not isinstance(node.ctx, ast.Load):
                if not (function.name == "__init__" and isinstance(node.value, ast.Name) and node.value.id == "self"):
                    changed = node.value
            if isinstance(node, ast.Call):
                if isinstance(node.func, ast.Attribute) and node.func.attr in changing:
                    changed = node.func.value
                if isinstance(node.func, ast.Name) and node.func.id in arguments:
                    yield f"L5 {file}:{node.lineno} an operator or a property calls what it was passed"
            if changed is not None and not (isinstance(changed, ast.Name) and changed.id in created):
                yield f"L5 {file}:{node.lineno} an operator or a property changes what it did not create"


def circles(package):
    """The files that import one another in a circle."""
    needs = {}
    for file, tree in package.trees.items():
        modules = [node.module for node in tree.body if isinstance(node, ast.ImportFrom)]
        start = package.name + "."
        needs[file] = {module[len(start):].replace(".", "/") + ".py" for module in modules if module.startswith(start)}
    found = []
    for file in needs:
        reached, todo = set(), list(needs[file])
        while todo:
            other = todo.pop()
            if other not in reached:
                reached.add(other)
                todo.extend(needs.get(other, ()))
        if file in reached:
            found.append(f"L16 {file}:1 imports itself through other files")
    return found


def faults_of_texts(name, texts):
    """The faults of a package with this name, whose files have these texts."""
    package = Package(name, texts)
    found = circles(package) + list(changes(package))
    for file in texts:
        base = os.path.basename(file)[:-3]
        if not re.fullmatch(r"[a-z][a-z0-9_]*|__init__|__main__", base):
            found.append(f"L14 {file}:1 the file's name")
        if base in FILE_NAMES_BARRED | WORDS | PYTHON_NAMES or base.startswith(("test_", "law_")):
            found.append(f"L14 {file}:1 the file's name")
        found.extend(FileCheck(package, file).run())
    if len(texts) > 100:
        found.append("L14 more than 100 files")
    return sorted(found)


def faults_of(folder):
    """The faults of the package in this folder."""
    texts = {}
    found = []
    for place, folders, files in os.walk(folder):
        folders[:] = [name for name in folders if name != "__pycache__"]
        if "__init__.py" not in files:
            found.append(f"L14 {place}: no __init__.py")
        for file in files:
            path = os.path.join(place, file)
            if not file.endswith(".py"):
                found.append(f"L1 {path}: not a .py file")
                continue
            with open(path, encoding="utf-8", newline="") as stream:
                texts[os.path.relpath(path, folder).replace(os.sep, "/")] = stream.read()
    return found + faults_of_texts(os.path.basename(os.path.normpath(folder)), texts)
