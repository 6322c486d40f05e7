"""The rules of the language that can be told from the files of the package, one by one."""

import ast
import builtins
import os
import re
import unittest

FOLDER = os.path.join(os.path.dirname(os.path.dirname(os.path.abspath(__file__))), "headgap")
LIBRARY = {"math": {"gcd", "lcm", "isqrt", "comb", "perm", "factorial"}}
ALLOWED = set("""
len range enumerate zip min max sum abs sorted reversed int str bool list tuple dict set frozenset isinstance ord repr
any all divmod pow getattr hasattr setattr iter next map Exception ValueError TypeError KeyError IndexError LookupError
ZeroDivisionError ArithmeticError OverflowError RuntimeError NotImplementedError AttributeError StopIteration
NotImplemented property staticmethod classmethod super""".split())
NEVER = set("""
register mro elements open input law version_info with_traceback add_note attrgetter breakpoint compile copyright
credits delattr dir eval exec exit gc globals help id importlib license locals methodcaller os quit type vars sys
""".split())
WORDS = re.compile(r"\b(typing|enum|Enum|Flag|Generic|Protocol|ABC|namedtuple|NamedTuple|TypedDict|_wall|_WallAttr)\b"
                   r"|dataclass|overload|contextmanager|Meta|\(type\)")
SPECIAL = set("""
__init__ __eq__ __repr__ __str__ __len__ __enter__ __exit__ __call__ __iter__ __lt__ __le__ __gt__ __ge__ __ne__
__add__ __sub__ __mul__ __floordiv__ __mod__ __pow__ __and__ __or__ __xor__ __lshift__ __rshift__ __radd__ __rsub__
__rmul__ __rand__ __ror__ __rxor__ __rlshift__ __rrshift__ __iadd__ __isub__ __imul__ __iand__ __ior__ __neg__ __pos__
__invert__ __abs__ __bool__ __contains__ __getitem__ __setitem__""".split())
INTERFACE = {
    "errors.py": "HeadError", "papers.py": "Verdict", "growths.py": "Growth", "converters.py": "Converter",
    "runs.py": "run climbs useful texts least_text", "rates.py": "Rate",
    "rings.py": "Ring Mean rings ring_rate greatest_mean shows_mean", "joins.py": "joined beside common repeated",
    "sizes.py": "longest least burst table Table text_for", "look_sizes.py": "shows_table",
    "gaps.py": "gap_of gap Enough Never gap_for safe_length", "look_gaps.py": "shows_gap",
    "arrays.py": "array_of extra_of extra array_for fits_in Fits Beyond extra_for", "look_arrays.py": "shows_extra",
    "bursts.py": "surely_taken", "cuts.py": "cost pieces dearest_cut Cut EndlessCut", "look_cuts.py": "shows_cut",
    "compare.py": "difference shows_difference never_longer apart alike_in_length", "smallest.py": "smallest Lengths counted",
    "calm.py": "calm_letters blamed", "logs.py": "states_after explained first_wrong lengths_of", "live.py": "Array",
    "texts.py": "converter_text growth_text log_text", "reader.py": "read_converter read_growth read_log read", "desk.py": "Desk",
}
METHODS = {
    "Growth": "__init__ __getitem__ __call__ stretch __iter__ __contains__ __add__ __radd__ __sub__ __rsub__ __neg__ __mul__ __rmul__ "
              "__or__ __and__ __lshift__ __rshift__ raised __le__ first_above __eq__ constant ramp none __str__ read",
    "Converter": "__init__ __call__ takes __getitem__ tail __contains__ __len__ __iter__ with_step with_tail without_step without_tail "
                 "begun renamed narrowed of __eq__ __str__ read __rshift__ __or__ __and__ __mul__ __rmul__",
    "Rate": "__init__ __eq__ __lt__ __le__ __gt__ __ge__ __add__ __radd__ __sub__ __rsub__ __neg__ __mul__ __str__ read",
    "Array": "__init__ __len__ __getitem__ __setitem__ __iter__ __eq__ stretch step flush finish run put move undo trial tried twin",
    "Desk": "__init__ say __call__ run __len__",
}
PROPERTIES = {
    "Growth": "period greatest is_endless slope", "Rate": "floor", "Desk": "names",
    "Array": "state reader writer unread written is_done ahead log",
}
NUMBERS_AND_STRINGS = {"len", "int", "ord", "str", "repr"}


def files():
    for name in sorted(os.listdir(FOLDER)):
        if name != "__pycache__":
            with open(os.path.join(FOLDER, name), encoding="utf-8") as held:
                yield name, held.read()


def is_plain(node):
    """Whether it is plainly a number or a string, as the rule for sorted, min and max asks beside an order."""
    if isinstance(node, ast.BinOp) and isinstance(node.op, ast.Add):
        return is_plain(node.left) and is_plain(node.right)
    if isinstance(node, ast.Call) and isinstance(node.func, ast.Name):
        return node.func.id in NUMBERS_AND_STRINGS
    return isinstance(node, (ast.Constant, ast.JoinedStr))


def is_plain_row(node):
    """Whether it is plainly a row of numbers or strings."""
    if isinstance(node, (ast.List, ast.Tuple)):
        return all(is_plain(part) for part in node.elts)
    if isinstance(node, ast.Call) and isinstance(node.func, ast.Name):
        return node.func.id == "range"
    return isinstance(node, ast.ListComp) and is_plain(node.elt)


def is_call_of(node, *names):
    return isinstance(node, ast.Call) and isinstance(node.func, ast.Name) and node.func.id in names


def is_string(node):
    return isinstance(node, ast.Constant) and isinstance(node.value, str)


def is_told_text(node):
    """Whether __str__ and __repr__ may return it: a string, an f-string, str(..), repr(..), the join of a literal."""
    joins = (isinstance(node, ast.Call) and isinstance(node.func, ast.Attribute) and node.func.attr == "join"
             and is_string(node.func.value))
    return joins or is_string(node) or isinstance(node, ast.JoinedStr) or is_call_of(node, "str", "repr")


def is_told_length(node):
    """Whether __len__ may return it: len(..) or a literal number."""
    return is_call_of(node, "len") or (isinstance(node, ast.Constant) and type(node.value) is int)


def wrong_returns(text):
    """The lines of a file at which a __str__, __repr__ or __len__ does not return as the rule L28 says."""
    found = []
    for node in ast.walk(ast.parse(text)):
        if isinstance(node, ast.FunctionDef) and node.name in ("__str__", "__repr__", "__len__"):
            good = is_told_length if node.name == "__len__" else is_told_text
            if not isinstance(node.body[-1], ast.Return):
                found.append(node.lineno)
            found.extend(part.lineno for part in ast.walk(node) if isinstance(part, ast.Return) and not good(part.value))
    return found


def assigned_names(tree):
    """The names of the attributes that are assigned anywhere in a file, whatever the object; setattr counts, too."""
    found = {node.attr for node in ast.walk(tree) if isinstance(node, ast.Attribute) and not isinstance(node.ctx, ast.Load)}
    return found | {node.args[1].value for node in ast.walk(tree) if is_call_of(node, "setattr") and is_string(node.args[1])}


def unset_properties(tree):
    """The names of the properties of a file that have no setter in a class in which they are."""
    found = set()
    for node in ast.walk(tree):
        if isinstance(node, ast.ClassDef):
            marked = [(part.name, ast.unparse(mark)) for part in node.body if isinstance(part, ast.FunctionDef)
                      for mark in part.decorator_list]
            set_ones = {name for name, mark in marked if mark == f"{name}.setter"}
            found |= {name for name, mark in marked if mark == "property"} - set_ones
    return found


def wrongly_assigned(texts):
    """The names that are assigned as attributes in files and are properties without a setter in one of them (L5)."""
    trees = [ast.parse(text) for text in texts]
    return sorted({name for tree in trees for name in assigned_names(tree)} & {name for tree in trees for name in unset_properties(tree)})


class Language(unittest.TestCase):
    def nodes(self, *kinds):
        for name, text in files():
            for node in ast.walk(ast.parse(text)):
                if isinstance(node, kinds):
                    yield f"{name}:{getattr(node, 'lineno', 0)}", node

    def test_files(self):
        for name, text in files():
            self.assertRegex(name, r"\A(__init__|[a-z][a-z0-9_]*)\.py\Z")
            self.assertTrue(all(sign == "\n" or " " <= sign <= "~" for sign in text), name)
            self.assertLessEqual(len(text.split("\n")) - 1, 399, name)
            self.assertLessEqual(max(len(line) for line in text.split("\n")), 120, name)
            self.assertNotRegex(text, WORDS, name)

    def test_imports(self):
        for place, node in self.nodes(ast.Import, ast.ImportFrom):
            self.assertIsInstance(node, ast.ImportFrom, place)
            self.assertTrue(all(part.asname is None for part in node.names), place)
            if not node.module.startswith("headgap."):
                self.assertIn(node.module, LIBRARY, place)
                self.assertLessEqual({part.name for part in node.names}, LIBRARY[node.module], place)

    def test_imports_name_the_defining_file_in_no_circle(self):
        trees = {name[:-3]: ast.parse(text) for name, text in files()}
        wanted = {name: [node for node in tree.body if isinstance(node, ast.ImportFrom)] for name, tree in trees.items()}
        for nodes in wanted.values():
            for node in nodes:
                if node.module.startswith("headgap."):
                    told = ast.dump(trees[node.module[8:]])
                    for part in node.names:
                        self.assertRegex(told, rf"(Def\(name|Store\(\).*|Name\(id)='{part.name}'")
        done = set()
        while len(done) < len(trees):
            ready = {name for name in trees if name not in done and all(
                node.module[8:] in done for node in wanted[name] if node.module.startswith("headgap."))}
            self.assertTrue(ready, "imports in a circle")
            done |= ready

    def test_module_level(self):
        for name, text in files():
            for node in ast.parse(text).body:
                docstring = isinstance(node, ast.Expr) and isinstance(node.value, ast.Constant)
                self.assertTrue(docstring or isinstance(node, (ast.ImportFrom, ast.FunctionDef, ast.ClassDef, ast.Assign)),
                                f"{name}:{node.lineno}")

    def test_functions(self):
        for place, node in self.nodes(ast.FunctionDef):
            self.assertLessEqual(node.end_lineno - node.lineno + 1, 40, place)
            self.assertTrue(not node.name.startswith("__") or node.name in SPECIAL, place)
            self.assertIsNone(node.returns, place)
            marks = [part.id if isinstance(part, ast.Name) else part.attr for part in node.decorator_list]
            self.assertTrue(all(mark in ("property", "setter", "staticmethod", "classmethod") for mark in marks), place)

    def test_statements(self):
        barred = (ast.Global, ast.AsyncFunctionDef, ast.Await, ast.AnnAssign, ast.Import, ast.Set, ast.GeneratorExp)
        for place, node in self.nodes(*barred):
            self.fail(f"{place}: {type(node).__name__}")
        for place, node in self.nodes(ast.AugAssign):
            self.assertIsInstance(node.value, ast.Constant, place)

    def test_values(self):
        for place, node in self.nodes(ast.Constant):
            self.assertNotIsInstance(node.value, (float, complex, bytes), place)
            if isinstance(node.value, str):
                self.assertNotIn("%", node.value, place)
        for place, node in self.nodes(ast.BinOp):
            self.assertNotIsInstance(node.op, (ast.Div, ast.MatMult), place)
        for place, node in self.nodes(ast.Compare):
            for operator, part in zip(node.ops, node.comparators):
                if isinstance(operator, (ast.Is, ast.IsNot)):
                    self.assertIsInstance(part, ast.Constant, place)

    def test_names(self):
        known = set(dir(builtins))
        for place, node in self.nodes(ast.Name):
            self.assertTrue(node.id not in known or node.id in ALLOWED, f"{place}: {node.id}")
            self.assertNotIn(node.id, NEVER, place)
            if isinstance(node.ctx, ast.Store):
                self.assertNotIn(node.id, known, place)
        for place, node in self.nodes(ast.arg):
            self.assertNotIn(node.arg, known | NEVER, place)
            self.assertIsNone(node.annotation, place)
        for place, node in self.nodes(ast.Attribute):
            self.assertNotIn(node.attr, NEVER, place)
            if node.attr.startswith("_"):
                self.assertRegex(ast.unparse(node), r"\A[a-z.]+\.__class__(\.__name__)?\Z", place)

    def test_classes_are_read_for_their_names_alone(self):
        names = [node.value for place, node in self.nodes(ast.Attribute) if node.attr == "__name__"]
        read = [node for place, node in self.nodes(ast.Attribute) if node.attr == "__class__"]
        self.assertEqual(len(names), len(read))

    def test_sorted_min_and_max_beside_an_order(self):
        for place, node in self.nodes(ast.Call):
            if isinstance(node.func, ast.Name) and node.func.id in ("sorted", "min", "max"):
                single = len(node.args) == 1
                good = is_plain_row(node.args[0]) if single else any(is_plain(part) for part in node.args)
                self.assertTrue(good, place)

    def test_interface_is_defined_in_its_files(self):
        made = {name: {node.name for node in ast.parse(text).body if isinstance(node, (ast.ClassDef, ast.FunctionDef))}
                for name, text in files()}
        for name, told in INTERFACE.items():
            self.assertLessEqual(set(told.split()), made[name], name)

    def test_methods_are_defined_in_their_classes(self):
        found = {node.name: node for place, node in self.nodes(ast.ClassDef)}
        for name, told in METHODS.items():
            self.assertLessEqual(set(told.split()), {part.name for part in found[name].body if isinstance(part, ast.FunctionDef)})
        for name, told in PROPERTIES.items():
            made = {part.name for part in found[name].body if isinstance(part, ast.FunctionDef) and any(
                isinstance(mark, ast.Name) and mark.id == "property" for mark in part.decorator_list)}
            self.assertEqual(made, set(told.split()))

    def test_properties_have_names_of_their_own(self):
        told = {name for names in PROPERTIES.values() for name in names.split()}
        plain = [part.name for place, node in self.nodes(ast.ClassDef) for part in node.body
                 if isinstance(part, ast.FunctionDef) and not part.decorator_list]
        self.assertEqual(told & {*plain, *dir(str), *dir(list), *dir(dict), *dir(int), *dir(set), *dir(bytes)}, set())
        # They are assigned off self alone, in classes that have an attribute of that name and no such property.
        for place, node in self.nodes(ast.Attribute):
            if isinstance(node.ctx, ast.Store) and node.attr in told:
                self.assertEqual(ast.unparse(node.value), "self", place)

    def test_properties_that_are_assigned_have_setters(self):
        self.assertEqual(wrongly_assigned([text for name, text in files()]), [])

    def test_properties_that_are_told_to_lack_setters(self):
        plain = "class A:\n @property\n def n(self): return self.m\n"
        with_setter = plain + " @n.setter\n def n(self, value): self.m = value\n"
        other = "class B:\n def __init__(self): self.n = 1\n"
        for texts, told in (([plain], []), ([with_setter], []), ([plain, other], ["n"]), ([other, plain], ["n"]), ([plain + other], ["n"]),
                            ([with_setter, other], []), ([with_setter, plain.replace("A", "C"), other], ["n"]), ([other], []),
                            ([plain, "def f(x): x.n += 1"], ["n"]), ([plain, "def f(x): x.m, (x.n, k) = 1, (2, 3)"], ["n"]),
                            ([plain, "def f(x):\n for x.n in [1]: pass"], ["n"]), ([plain, "def f(x): setattr(x, 'n', 1)"], ["n"]),
                            ([plain, "def f(x):\n with x as x.n: pass"], ["n"]), ([plain, "def f(x): del x.n"], ["n"]),
                            ([plain, "def f(x): return x.n"], []), ([plain, "def f(n): n = 1"], []), ([plain, "def f(x): x.n[0] = 1"], [])):
            self.assertEqual(wrongly_assigned(texts), told, texts)

    def test_leaving_a_block(self):
        # Attributes are assigned attributes, one by one.
        for place, node in self.nodes(ast.FunctionDef):
            if node.name == "__exit__":
                self.assertEqual([part.arg for part in node.args.args], ["self", "kind", "value", "trace"], place)
                for part in node.body:
                    self.assertIsInstance(part, ast.Assign, place)
                    self.assertIsInstance(part.value, ast.Attribute, place)
                    self.assertEqual(len(part.targets), 1, place)

    def test_errors_that_are_caught(self):
        own = {node.name for place, node in self.nodes(ast.ClassDef) if place.startswith("errors.py")}
        for place, node in self.nodes(ast.ExceptHandler):
            self.assertIn(node.type.id, own, place)
        for place, node in self.nodes(ast.Try):
            self.assertEqual(node.finalbody, [], place)

    def test_attributes_are_assigned(self):
        made = {node.attr for place, node in self.nodes(ast.Attribute) if isinstance(node.ctx, ast.Store)}
        made |= {node.name for place, node in self.nodes(ast.FunctionDef)}
        made |= {part.id for place, node in self.nodes(ast.ClassDef) for line in node.body if isinstance(line, ast.Assign)
                 for part in line.targets}
        builtin = {name for kind in (str, list, dict, int, tuple, set) for name in dir(kind)} | {"__class__", "__name__", "setter"}
        for place, node in self.nodes(ast.Attribute):
            if isinstance(node.ctx, ast.Load):
                self.assertTrue(node.attr in made or node.attr in builtin, f"{place}: {node.attr}")

    def test_locals_hide_no_import_and_no_class(self):
        for name, text in files():
            tree = ast.parse(text)
            taken = {part.name for node in tree.body if isinstance(node, ast.ImportFrom) for part in node.names}
            taken |= {node.name for node in tree.body if isinstance(node, ast.ClassDef)}
            for node in ast.walk(tree):
                if isinstance(node, ast.arg):
                    self.assertNotIn(node.arg, taken, f"{name}:{node.lineno}")
                if isinstance(node, ast.Name) and isinstance(node.ctx, ast.Store):
                    self.assertNotIn(node.id, taken, f"{name}:{node.lineno}")

    def test_generators(self):
        names = [node.name for place, node in self.nodes(ast.FunctionDef)]
        for place, node in self.nodes(ast.FunctionDef):
            if any(isinstance(part, (ast.Yield, ast.YieldFrom)) for part in ast.walk(node)):
                self.assertEqual(names.count(node.name), 1, place)
                self.assertFalse(node.decorator_list or node.name.startswith("_"), place)

    def test_returns_of_str_repr_and_len(self):
        for name, text in files():
            self.assertEqual(wrong_returns(text), [], name)

    def test_returns_that_are_told(self):
        for line in ("return 'a'", "return f'{self.n}'", "return str(self.n)", "return repr(self.n)", "return ' '.join(xs)"):
            for name in ("__str__", "__repr__"):
                self.assertEqual(wrong_returns(f"class C:\n def {name}(self):\n  {line}"), [], line)
        for line in ("return 'a' if self.n else 'b'", "return self.n", "return self.n.join(xs)", "return 'a' + 'b'", "return",
                     "return 1", "return len(self.n)", "return told(self.n)", "return (lambda: 1)()", "pass",
                     "def inner(): return 1\n  return 'a'", "if self.n: return self.n\n  return 'a'"):
            for name in ("__str__", "__repr__"):
                self.assertEqual(len(wrong_returns(f"class C:\n def {name}(self):\n  {line}")), 1, line)
        for line, many in (("return len(self.n)", 0), ("return 3", 0), ("return self.n", 1), ("return True", 1),
                           ("return len(self.n) + 1", 1), ("return 'a'", 1), ("if self.n: return self.n\n  return 0", 1)):
            self.assertEqual(len(wrong_returns(f"class C:\n def __len__(self):\n  {line}")), many, line)

    def test_nothing_sorts_in_place(self):
        # Rates and growths compare, so nothing sorts itself in place.
        for place, node in self.nodes(ast.Attribute):
            self.assertNotEqual(node.attr, "sort", place)
