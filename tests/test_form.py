"""The form of the code: the rules that can be seen by looking at the files, and where the interface stands."""

import ast
import builtins
import unittest
from pathlib import Path

PACKAGE = Path(__file__).resolve().parent.parent / "allcalls"

INTERFACE = {
    "boxes": "Box plain crossed full beside without pieces",
    "frames": "is_load is_frame greatest_loads is_way way_load is_standing standings askings answers",
    "loads": "way_for is_way_for piece_loads box_frame bar is_bar",
    "wholes": "missing whole_paper is_whole_paper",
    "splits": "side_sums triangle_sums plain_need plain_split plain_bar is_plain_split crossed_split"
              " is_crossed_split mates_way",
    "keepings": "is_keeping greatest_keeping strategy is_strategy",
    "dooms": "is_doom doom bait lost least_moves moves_paper is_moves_paper common_standings common_papers"
             " are_common_papers",
    "stricts": "first_stuck is_stuck blocking_tree is_blocking_tree",
    "rules": "rule_standings rule_fails is_rule_paper good_rule grade",
    "seats": "is_seating seatings seated calls call_rows call_answers",
    "aheads": "is_ahead_keeping ahead_keeping is_ahead_doom ahead_doom longer least_ahead",
    "foreseen": "behind is_dead dead_row is_family family",
    "blocks": "effect endless_effects is_block_keeping block_keeping is_block_doom block_doom enough_ahead",
    "bursts": "bursts burst_answers is_burst_keeping burst_keeping is_burst_doom burst_doom burst_moves"
              " greatest_burst patience",
    "breaks": "breaks fewest_breaking breaking_lots way_tree is_way_tree way_left frame_break holds_through"
              " frame_trees are_frame_trees left_frame matters spare strengthened",
    "breakgames": "positions to_answer break_answers break_keeping is_break_keeping break_doom is_break_doom"
                  " least_break_moves break_play",
    "trials": "within_reach all_mutes told left twins",
    "partings": "parting bar_of is_parting is_bar_of halving open_caps",
    "hunts": "suspects trials_left wise foe fewest_trials trials_paper is_trials_paper",
    "tries": "tries are_tries shield is_shield",
    "alikes": "is_turn no_turn turn_back turn_on turned_box turned_way turned_load turned_frame turned_asking",
    "likes": "turns alike likes first_like",
    "fits": "is_fit first_fit fitted_frame fitted_keeping doom_back",
    "worths": "worth cheap is_low is_high low_paper high_paper",
    "budgets": "least_budget budgets is_budgets ruin is_ruin",
    "refuges": "safe_positions perils is_refuge are_perils",
    "exchange": "Exchange",
    "hearsay": "is_run may_stand surely run_through fence is_fence",
    "prices": "fewest_moved most_moved calm_run prices are_prices",
    "texts": "exchange_text read_exchange",
    "fewest": "meets fewest_switches least_lots great_lots short_tree is_short_tree",
    "trades": "trade trade_papers are_trade_papers",
}

# The methods that the interface names; they stand in the class itself.
METHODS_TOLD = {
    "Box": "__init__ __eq__",
    "Exchange": "__init__ __eq__ __len__ ask answer relay undo position asked log moved heard copy is_safe advice peril"
                " repair",
}

# The interface's modules and, among them, those that are the program's own, each behind all that it imports from.
ORDER = """errors kinds packs boxes counts ways frames reach loads tallies wholes splits games keepings dooms stricts
rules seats shelves ages plans aheads foreseen effects blocks seekers swarms bursts finders sheaves breakers lottables breaks
breaktables breakgames trials packings mixers parters bearings partings hunts covers tries alikes likes
fits tolls worths budgets refuges outlooks exchange hearings hearsay prices texts wishes fewest trades"""

LIBRARY = {"itertools": {"combinations", "permutations"}, "math": {"comb", "factorial", "gcd", "perm"}, "heapq": {"heappop", "heappush"}}

BUILTINS = """len range enumerate zip min max sum abs sorted reversed int str bool list tuple dict isinstance
ValueError""".split()

METHODS = """append count endswith extend find get index insert items join keys pop remove replace setdefault split
startswith strip update values bit_length""".split()

# What lists, dicts, strings and numbers have: no attribute is called so.
BARRED_ATTRIBUTES = """items keys values pop update append clear extend insert remove reverse setdefault sort args
encode decode hex fromhex format format_map mro register elements open input law""".split()

BARRED_WORDS = """type typing typing_extensions enum Enum IntEnum StrEnum Flag IntFlag Generic Protocol ABC ABCMeta
namedtuple NamedTuple TypedDict TYPE_CHECKING abstractmethod""".split()

BARRED_NAMES = """register mro elements open input law version_info with_traceback add_note attrgetter breakpoint
builtins compile copyright credits delattr dir eval exec exit gc getattr globals hasattr help id importlib license
locals methodcaller os quit setattr super type vars sys iter next map""".split()

BARRED_NODES = (
    ast.Global, ast.AsyncFunctionDef, ast.Await, ast.Set, ast.SetComp, ast.GeneratorExp, ast.Yield, ast.YieldFrom,
    ast.Div, ast.Pow, ast.AnnAssign, ast.Try, ast.With, ast.Match, ast.Delete, ast.Nonlocal, ast.NamedExpr, ast.Assert,
)

COMPREHENSIONS = (ast.ListComp, ast.DictComp)

# What is no list and goes over something else, and what goes over it on the spot if it stands there first.
LAZY = "range zip enumerate reversed".split()
VIEWS = "items keys values".split()
GO_OVER = "list tuple dict sorted sum any all enumerate zip combinations permutations product".split()


def files():
    return sorted(PACKAGE.glob("*.py"))


def tree_of(path):
    return ast.parse(path.read_text(encoding="utf-8"))


def functions(tree):
    return [node for node in ast.walk(tree) if isinstance(node, ast.FunctionDef)]


def stored(node):
    return {one.id for one in ast.walk(node) if isinstance(one, ast.Name) and isinstance(one.ctx, ast.Store)}


def is_lazy(node):
    """Whether a node makes a range, a zip, an enumerate, a reversed or a view."""
    if not isinstance(node, ast.Call):
        return False
    if isinstance(node.func, ast.Name):
        return node.func.id in LAZY
    return isinstance(node.func, ast.Attribute) and node.func.attr in VIEWS


def is_on_the_spot(node, outer):
    """Whether what is_lazy is gone over, or asked, right where it stands: outer is the node around it."""
    if isinstance(outer, (ast.For, ast.comprehension)):
        return outer.iter is node
    if isinstance(outer, ast.Compare):
        made = ast.unparse(node.func).split(".")[-1]
        plain = len(outer.ops) == 1 and isinstance(outer.ops[0], (ast.In, ast.NotIn))
        return plain and outer.comparators[0] is node and made in ("range", "keys")
    if not isinstance(outer, ast.Call) or outer.func is node:
        return False
    if isinstance(outer.func, ast.Attribute):
        return outer.func.attr == "join" and isinstance(outer.func.value, ast.Constant)
    if outer.func.id in ("min", "max"):
        return outer.args == [node] and {word.arg for word in outer.keywords} <= {"default"}
    return outer.func.id in GO_OVER and outer.args[0] is node


def held_rows(tree):
    """The rows of a tree that return, pass on or store what is_lazy, instead of going over it on the spot."""
    found = []
    for outer in ast.walk(tree):
        for node in ast.iter_child_nodes(outer):
            if is_lazy(node) and not is_on_the_spot(node, outer):
                found.append(node.lineno)
    return sorted(found)


class Form(unittest.TestCase):
    def test_folder(self):
        for path in PACKAGE.iterdir():
            if path.name != "__pycache__":
                self.assertEqual(path.suffix, ".py", path)
        self.assertEqual((PACKAGE / "__init__.py").read_text().strip(), "")
        self.assertEqual({path.stem for path in files()}, set(ORDER.split()) | {"__init__"})

    def test_size_and_characters(self):
        for path in files():
            text = path.read_bytes()
            self.assertTrue(all(code == 10 or 32 <= code <= 126 for code in text), path)
            lines = text.decode().split("\n")
            self.assertLessEqual(len(lines), 400, path)
            for line in lines:
                self.assertLessEqual(len(line), 120, (path, line))
                self.assertEqual(line, line.rstrip(), path)
            for function in functions(tree_of(path)):
                self.assertLessEqual(function.end_lineno - function.lineno + 1, 40, function.name)

    def test_module_level(self):
        for path in files():
            for k, node in enumerate(tree_of(path).body):
                doc = k == 0 and isinstance(node, ast.Expr) and isinstance(node.value, ast.Constant)
                plain = isinstance(node, ast.Assign) and isinstance(node.value, ast.Constant)
                kinds = isinstance(node, (ast.ImportFrom, ast.FunctionDef, ast.ClassDef))
                self.assertTrue(doc or plain or kinds, (path, node.lineno))

    def test_imports(self):
        order = ORDER.split()
        for path in files():
            tree = tree_of(path)
            inner = [node for node in ast.walk(tree) if isinstance(node, (ast.Import, ast.ImportFrom))]
            self.assertEqual(inner, [node for node in tree.body if isinstance(node, ast.ImportFrom)], path)
            for node in inner:
                names = {alias.name for alias in node.names}
                self.assertTrue(all(alias.asname is None for alias in node.names))
                if node.module in LIBRARY:
                    self.assertLessEqual(names, LIBRARY[node.module])
                    continue
                package, module = node.module.split(".")
                self.assertEqual((package, node.level), ("allcalls", 0))
                self.assertLess(order.index(module), order.index(path.stem), path)
                own = tree_of(PACKAGE / (module + ".py")).body
                made = {item.name for item in own if isinstance(item, (ast.FunctionDef, ast.ClassDef))}
                made |= {item.targets[0].id for item in own if isinstance(item, ast.Assign)}
                self.assertLessEqual(names, made, path)

    def test_nothing_is_imported_or_made_in_vain(self):
        every = {}
        for path in files():
            tree = tree_of(path)
            used = {node.id for node in ast.walk(tree) if isinstance(node, ast.Name)}
            used |= {node.attr for node in ast.walk(tree) if isinstance(node, ast.Attribute)}
            every[path.stem] = used
            for node in tree.body:
                if isinstance(node, ast.ImportFrom):
                    self.assertLessEqual({alias.name for alias in node.names}, used, path)
        everywhere = set().union(*every.values())
        for path in files():
            told = set(INTERFACE.get(path.stem, "").split())
            told |= {name for one in told for name in METHODS_TOLD.get(one, "").split()}
            for node in ast.walk(tree_of(path)):
                own = isinstance(node, (ast.FunctionDef, ast.ClassDef)) and not node.name.startswith("__")
                if own and path.stem != "errors" and node.name not in told:
                    self.assertIn(node.name, everywhere, path)

    def test_interface(self):
        for module, names in INTERFACE.items():
            body = tree_of(PACKAGE / (module + ".py")).body
            made = {node.name for node in body if isinstance(node, (ast.FunctionDef, ast.ClassDef))}
            self.assertLessEqual(set(names.split()), made)
            for node in body:
                if isinstance(node, ast.ClassDef) and node.name in METHODS_TOLD:
                    own = {item.name for item in node.body if isinstance(item, ast.FunctionDef)}
                    self.assertLessEqual(set(METHODS_TOLD[node.name].split()), own)

    def test_names(self):
        for path in files():
            tree = tree_of(path)
            fixed = {node.name for node in tree.body if isinstance(node, ast.ClassDef)}
            top = [node.name for node in tree.body if isinstance(node, (ast.FunctionDef, ast.ClassDef))]
            for node in tree.body:
                if isinstance(node, ast.ImportFrom):
                    fixed |= {alias.name for alias in node.names}
                    top += [alias.name for alias in node.names]
                if isinstance(node, ast.Assign):
                    top += [target.id for target in node.targets]
            self.assertEqual(len(top), len(set(top)), path)
            local = {node.arg for node in ast.walk(tree) if isinstance(node, ast.arg)} | stored(tree)
            constants = {target.id for node in tree.body if isinstance(node, ast.Assign) for target in node.targets}
            self.assertFalse((local - constants) & fixed, (path, local & fixed))
            mine = local | set(top)
            self.assertFalse(mine & set(dir(builtins)), (path, mine & set(dir(builtins))))
            self.assertFalse(mine & set(BARRED_NAMES), path)
            self.assertFalse([name for name in mine if name.startswith("_") and name != "_"], path)
            read = [node.id for node in ast.walk(tree) if isinstance(node, ast.Name) and isinstance(node.ctx, ast.Load)]
            self.assertNotIn("_", read, path)

    def test_methods_and_attributes(self):
        methods, attributes, reads = set(), set(), set()
        for path in files():
            for node in ast.walk(tree_of(path)):
                if isinstance(node, ast.ClassDef):
                    own = [item.name for item in node.body if isinstance(item, ast.FunctionDef)]
                    self.assertEqual(len(own), len(set(own)), node.name)
                    methods |= {name for name in own if not name.startswith("__")}
                if isinstance(node, ast.Attribute):
                    (attributes if isinstance(node.ctx, ast.Store) else reads).add(node.attr)
        self.assertFalse(methods & attributes)
        self.assertFalse((methods | attributes) & set(METHODS + BARRED_ATTRIBUTES))
        self.assertLessEqual(reads, methods | attributes | set(METHODS) | {"__init__"})

    def test_builtins_and_calls(self):
        methods = set(METHODS) | {"__init__"}
        for path in files():
            for node in ast.walk(tree_of(path)):
                if isinstance(node, ast.ClassDef):
                    methods |= {item.name for item in node.body if isinstance(item, ast.FunctionDef)}
        for path in files():
            tree = tree_of(path)
            used = {node.id for node in ast.walk(tree) if isinstance(node, ast.Name)} & set(dir(builtins))
            self.assertLessEqual(used, set(BUILTINS), path)
            for node in ast.walk(tree):
                if isinstance(node, ast.Call) and isinstance(node.func, ast.Attribute):
                    self.assertIn(node.func.attr, methods, (path, node.lineno))
                if isinstance(node, ast.Call):
                    self.assertIsInstance(node.func, (ast.Name, ast.Attribute), (path, node.lineno))
                    names = {word.arg for word in node.keywords}
                    self.assertLessEqual(names, {"key", "reverse"}, (path, node.lineno))
                    self.assertFalse([one for one in node.args if isinstance(one, ast.Starred)], path)

    def test_nodes(self):
        for path in files():
            for node in ast.walk(tree_of(path)):
                self.assertNotIsInstance(node, BARRED_NODES, (path, getattr(node, "lineno", None)))
                if isinstance(node, (ast.FunctionDef, ast.ClassDef)):
                    self.assertFalse(node.decorator_list)
                    self.assertTrue(ast.get_docstring(node) or node.name.startswith("__"), (path, node.name))
                if isinstance(node, ast.FunctionDef):
                    inner = [one for one in ast.walk(node) if isinstance(one, ast.FunctionDef)]
                    self.assertEqual(len(inner), 1, (path, node.name))
                    self.assertFalse(node.args.defaults or node.args.vararg or node.args.kwarg)
                if isinstance(node, ast.Constant):
                    self.assertNotIsInstance(node.value, (float, bytes, complex))
                if isinstance(node, ast.Compare):
                    for sign, other in zip(node.ops, node.comparators):
                        if isinstance(sign, (ast.Is, ast.IsNot)):
                            self.assertIsInstance(other, ast.Constant, (path, node.lineno))
                if isinstance(node, ast.Raise) and node.exc is not None:
                    self.assertIsInstance(node.exc, ast.Call, (path, node.lineno))

    def test_comprehensions_and_lambdas(self):
        for path in files():
            for function in functions(tree_of(path)):
                inner = [node for node in ast.walk(function) if isinstance(node, COMPREHENSIONS + (ast.Lambda,))]
                own = {node.arg for node in function.args.args}
                for node in ast.walk(function):
                    if isinstance(node, (ast.Assign, ast.AugAssign, ast.For)):
                        for target in getattr(node, "targets", None) or [node.target]:
                            own |= stored(target)
                for node in inner:
                    bound = own | set().union(*[stored(one) for one in inner if one is not node])
                    for one in ast.walk(node):
                        if one is not node and isinstance(one, COMPREHENSIONS):
                            names = set().union(*[stored(part.target) for part in one.generators])
                            outer = own | set().union(*[stored(part.target) for part in getattr(node, "generators", [])])
                            self.assertFalse(names & outer, (path, one.lineno))
                    if isinstance(node, ast.Lambda):
                        self.assertEqual(len(node.args.args), 1)
                        self.assertNotIn(node.args.args[0].arg, bound, (path, node.lineno))

    def test_products_are_iterated_at_once(self):
        for path in files():
            for function in functions(tree_of(path)):
                for node in ast.walk(function):
                    if isinstance(node, ast.Call) and getattr(node.func, "id", "") in LIBRARY["itertools"]:
                        for one in node.args:
                            self.assertIsInstance(one, (ast.Name, ast.Call), (path, node.lineno))

    def test_ranges_and_views_are_gone_over_on_the_spot(self):
        for path in files():
            self.assertEqual(held_rows(tree_of(path)), [], path)

    def test_rows_that_hold_ranges_and_views_are_seen(self):
        for row in """return range(n); return zip(a, b); found = enumerate(a); f(reversed(a)); self.a = d.items()
        a.append(range(n)); found = [range(n)]; return d.keys(); found = {0: d.values()}; return (range(n), 1)
        found = range(n) if a else a; f(a, range(n)); for k in f(range(n)): pass; range(n)[0]; return range(n) == a
        len(d.items()); found = lambda k: range(k); set(d.values()); max(range(n), a); return [*range(n)]; d.keys().a
        zip(a, range(n)); a[0] = range(n); range(n) in a; d.items() in a; a in d.items(); sorted(a, key=range(n))
        found.join(d.keys()); a, b = range(2); found = a or range(n); return f"{range(n)}"; sum(a, range(n))
        """.replace(";", "\n").split("\n"):
            if row.strip():
                self.assertTrue(held_rows(ast.parse("def f():\n    " + row.strip())), row)
        for row in """return list(range(n)); for k in range(n): pass; found = [k for k in zip(a, b)]; sum(d.values())
        return {k: 1 for k in d.keys()}; max(d.values(), default=0); min(range(n)); k in range(n); k not in d.keys()
        tuple(enumerate(a)); sorted(d.items(), key=f); " ".join(d.keys()); dict(zip(a, b)); combinations(range(n), 2)
        return list(reversed(a)); for k, (a, b) in enumerate(zip(a, b)): pass; any(d.values()); f(list(range(n)))
        """.replace(";", "\n").split("\n"):
            if row.strip():
                self.assertEqual(held_rows(ast.parse("def f():\n    " + row.strip())), [], row)

    def test_strings(self):
        for path in files():
            tree = tree_of(path)
            docs = set()
            for node in ast.walk(tree):
                if isinstance(node, (ast.Module, ast.FunctionDef, ast.ClassDef)) and ast.get_docstring(node):
                    docs.add(id(node.body[0].value))
            for node in ast.walk(tree):
                if isinstance(node, ast.Constant) and isinstance(node.value, str):
                    self.assertNotIn("%", node.value)
                    self.assertNotIn("\\", node.value)
                    if id(node) not in docs:
                        self.assertFalse(set(node.value.split()) & set(BARRED_WORDS), (path, node.lineno))
                if isinstance(node, (ast.Name, ast.arg, ast.Attribute)):
                    word = getattr(node, "id", None) or getattr(node, "arg", None) or getattr(node, "attr", None)
                    self.assertNotIn(word, BARRED_WORDS)

    def test_loops_leave_what_they_go_over(self):
        changing = {"append", "extend", "insert", "pop", "remove", "setdefault", "update"}
        for path in files():
            for loop in ast.walk(tree_of(path)):
                if not isinstance(loop, ast.For):
                    continue
                over = {ast.dump(node) for node in ast.walk(loop.iter) if isinstance(node, (ast.Name, ast.Attribute))}
                for node in ast.walk(loop):
                    if isinstance(node, ast.Call) and isinstance(node.func, ast.Attribute):
                        if node.func.attr in changing:
                            self.assertNotIn(ast.dump(node.func.value), over, (path, node.lineno))
                for node in loop.body:
                    for one in ast.walk(node):
                        if isinstance(one, ast.Subscript) and isinstance(one.ctx, ast.Store):
                            whole = ast.dump(one.value).replace("Store()", "Load()")
                            plain = isinstance(loop.iter, ast.Call) and getattr(loop.iter.func, "id", "") == "range"
                            self.assertTrue(plain or whole not in over, (path, one.lineno))


if __name__ == "__main__":
    unittest.main()
