"""The interface, and the form of the code: what ../shared/LANGUAGE.md asks for, as far as it is easily seen."""

import ast
import builtins
import importlib
import inspect
import pathlib
import unittest

PACKAGE = pathlib.Path(__file__).resolve().parent.parent / "lanternhouse"

INTERFACE = {
    "house": [
        "House(rooms, doors, *, trades='RB')", "doors_at(house, room)", "other_end(house, door, room)",
        "longest_cycle(house)", "is_odd(house)", "is_even(house)", "is_strict(house)", "is_tree(house)",
        "is_swift(house)",
    ],
    "standing": [
        "Standing(hands, places)", "fits(house, standing)", "light_of(house, standing, door)",
        "last_light_of(house, standing, door)", "hands_in(house, standing, room)", "census_of(house, standing)",
    ],
    "deeds": [
        "Run(deeds)", "can_do(house, standing, hand, door)", "do(house, standing, hand, door)",
        "possible_deeds(house, standing)", "replay(house, standing, run)", "course(house, standing, run)",
        "passes_of(house, run)",
    ],
    "mirror": [
        "turned_house(house)", "turned_standing(house, standing)", "recoloured_house(house)",
        "recoloured_standing(house, standing)",
    ],
    "notation": [
        "format_house(house)", "format_standing(standing)", "format_run(run)", "parse_house(text)",
        "parse_standing(text)", "parse_run(text)",
    ],
    "reach": [
        "spread_of(house, standing, trade)", "is_live(house, standing)", "is_rooted(house, standing)",
        "meeting_rooms(house, standing)", "root_rooms(house, standing)", "safe_deeds(house, standing)",
    ],
    "papers": [
        "is_paper(house, standing, paper)", "least_paper(house, standing)", "greatest_paper(house, standing)",
        "join_papers(first, second)", "meet_papers(first, second)", "count_papers(house, standing)",
        "closed_rooms(house, standing)",
    ],
    "meeting": ["meeting_distance(house, standing)", "first_meeting(house, standing)"],
    "lamps": [
        "change_lamps(house, standing, doors)", "quicken(house, standing)", "closeness(house, standing)",
        "killing_lamps(house, standing)",
    ],
    "trees": [
        "tree_doors(house)", "way_between(house, first, last)", "ring_of(house, door)",
        "room_distance(house, first, last)",
    ],
    "ledgers": [
        "ledgers_of(house, standing)", "ledger_of(house, standing, rooms)", "unlike_room(house, start, end)",
        "crossings(house, start, end)", "settings_for(house, hands, wanted, *, odd_rings=())",
    ],
    "pairs": [
        "pair_walk(house, standing, pair, door)", "pair_travel(house, standing, pair, room)",
        "even_turn(house, standing, pair, door, steps)", "carry(house, standing, pair, hand, door, *, steps=1)",
    ],
    "gathering": ["gather(house, standing, room)", "settle(house, start, end)"],
    "planner": ["plan_bound(house, hands)", "plan(house, start, end)", "pieces(house, start, end)"],
    "school": [
        "can_learn(house, standing, hand)", "learn(house, standing, hand)", "school_plan(house, start, end)",
    ],
    "quiet": [
        "steps_between(house, start, end)", "first_fault(house, start, end)",
        "is_fault(house, start, end, fault)", "quiet_run(house, start, end)",
    ],
    "verdicts": [
        "Verdict(reached, *, run=None, room=None, side=None, paper=None, fault=None)",
        "decide(house, start, end)", "is_right(house, start, end, verdict)",
    ],
    "farewell": ["farewell(house, standing, trade)", "farewell_count(house, standing, trade)"],
    "captains": ["winner(house, standing, *, first)", "captain_deed(house, standing, trade)"],
    "clock": [
        "measure_of(house)", "colouring_of(house)", "odd_ring(house)", "period_of(house)",
        "time_of(house, standing)",
    ],
    "coins": ["sure_amount(coins)", "pay(coins, amount)"],
    "exact": ["sure_count(house, start, end)", "exact_plan(house, start, end, count)"],
    "removal": ["shortest_stretch(cycle, place, reds, blues)", "removal(house, standing, room)"],
    "undoing": ["undo_run(house, standing, hand, door)"],
    "twohands": ["two_hands_run(house, start, end)"],
    "chase": ["is_forced(house, standing)", "chased_pair(house, standing)", "chase_door(house, standing, pair)"],
    "guilds": [
        "trade_ledgers(house, standing)", "unlike_trades(house, start, end)", "crew_of(house, standing)",
        "crew_walk(house, standing, crew, door)", "exchange(house, standing, crew, movers, door, *, steps=0)",
    ],
    "crews": [
        "crew_bound(house, hands)", "is_canonical(house, standing, room)", "canonical_run(house, standing, room)",
        "crew_plan(house, start, end)",
    ],
    "masters": ["closed_walk(house, room, passes)", "master_bound(house, hands)", "master_plan(house, start, end)"],
    "growth": [
        "with_door(house, standing, first, second, cycle, *, place=0)",
        "with_room(house, standing, room, cycle, *, place=0)", "with_hand(house, standing, trade, room)",
        "quickening_doors(house, standing)",
        "joined(first_house, first_standing, second_house, second_standing, first_room, second_room, cycle, *, place=0)",
    ],
    "desk": ["Desk(house, standing)"],
    "errors": ["InvalidHouse(door)", "BadDeed(at)", "InvalidText(line)", "NotPossible(hand, door)", "Refused(row)"],
}

LIBRARY = {"heapq": {"heappush", "heappop", "heapify", "heapreplace", "heappushpop"}, "math": {"gcd"}}
CALLED = {
    "len", "range", "enumerate", "zip", "min", "max", "sum", "abs", "sorted", "reversed", "int", "str", "bool",
    "list", "tuple", "dict", "set", "isinstance", "ord", "repr", "any", "all", "divmod", "iter", "super",
}
WORDS = {
    "register", "mro", "elements", "open", "input", "law", "version_info", "type", "typing", "enum", "Enum",
    "dir", "eval", "exec", "exit", "help", "id", "vars", "os", "sys", "compile", "globals", "locals", "quit",
}
DOUBLE = {"__init__", "__len__", "__iter__", "__add__", "__neg__"}
CHANGING = {
    "append", "clear", "extend", "insert", "pop", "remove", "reverse", "setdefault", "sort", "update", "add", "discard",
}


def sources():
    return {path.stem: path.read_bytes().decode("ascii") for path in sorted(PACKAGE.glob("*.py"))}


def trees():
    return {name: ast.parse(text) for name, text in sources().items()}


def nodes(kinds):
    """List the nodes of these kinds in all files, with the names of their files."""
    return [(name, node) for name, tree in trees().items() for node in ast.walk(tree) if isinstance(node, kinds)]


def names_in(node):
    """Tell the names that stand in the node as values."""
    return {part.id for part in ast.walk(node) if isinstance(part, ast.Name)}


def walked_names(node):
    """Tell the names of what a loop goes over itself, not of a copy or of an answer."""
    if isinstance(node, ast.Call):
        if isinstance(node.func, ast.Name) and node.func.id in ("enumerate", "zip", "reversed"):
            return set().union(*[walked_names(part) for part in node.args])
        if isinstance(node.func, ast.Attribute) and node.func.attr in ("items", "keys", "values"):
            return walked_names(node.func.value)
        return set()
    if isinstance(node, (ast.Attribute, ast.Subscript)):
        return walked_names(node.value)
    return names_in(node) if isinstance(node, (ast.Name, ast.IfExp, ast.BoolOp)) else set()


def with_other_names(function, names):
    """Add the names that stand for the same lists, by plain assignments anywhere in the function."""
    names = set(names)
    while True:
        more = set()
        for node in ast.walk(function):
            if isinstance(node, ast.Assign) and isinstance(node.value, ast.Name):
                both = {node.value.id} | {target.id for target in node.targets if isinstance(target, ast.Name)}
                more |= both if both & names else set()
        if more <= names:
            return names
        names |= more


def changed_names(node):
    """Tell the names of the lists and dicts that the statements in the node change."""
    found = set()
    for part in ast.walk(node):
        if isinstance(part, ast.Subscript) and not isinstance(part.ctx, ast.Load):
            found |= walked_names(part.value)
        if isinstance(part, ast.AugAssign) and isinstance(part.target, ast.Name):
            found.add(part.target.id)
        if isinstance(part, ast.Call) and isinstance(part.func, ast.Attribute) and part.func.attr in CHANGING:
            found |= walked_names(part.func.value)
        if isinstance(part, ast.Call) and isinstance(part.func, ast.Name) and part.func.id.startswith("heap"):
            found |= walked_names(part.args[0])
    return found


class Interface(unittest.TestCase):

    def test_each_name_is_defined_in_its_file(self):
        for name, lines in INTERFACE.items():
            body = ast.parse((PACKAGE / f"{name}.py").read_text()).body
            defined = [node.name for node in body if isinstance(node, (ast.FunctionDef, ast.ClassDef))]
            for line in lines:
                self.assertIn(line.split("(")[0], defined)

    def test_arguments(self):
        for name, lines in INTERFACE.items():
            module = importlib.import_module(f"lanternhouse.{name}")
            for line in lines:
                word = line.split("(")[0]
                self.assertEqual(word + str(inspect.signature(getattr(module, word))), line)

    def test_methods_stand_in_the_class_itself(self):
        from lanternhouse.deeds import Run
        from lanternhouse.desk import Desk
        for method in ("__len__", "__iter__", "__add__", "__neg__"):
            self.assertIn(method, vars(Run))
        for method in ("tell(self, row)", "tell_all(self, rows)", "journal(self)", "__len__(self)", "__iter__(self)"):
            word = method.split("(")[0]
            self.assertEqual(word + str(inspect.signature(vars(Desk)[word])), method)


class Form(unittest.TestCase):

    def test_files(self):
        names = [path.name for path in PACKAGE.iterdir() if path.name != "__pycache__"]
        for name in names:
            self.assertRegex(name, r"^[a-z_]+\.py$")
        self.assertIn("__init__.py", names)

    def test_characters_and_lengths(self):
        for name, text in sources().items():
            lines = text.split("\n")
            self.assertLessEqual(len(lines), 399, name)
            for line in lines:
                self.assertLessEqual(len(line), 120, name)
                self.assertTrue(all(" " <= sign <= "~" for sign in line), name)

    def test_lengths_of_functions(self):
        for name, node in nodes(ast.FunctionDef):
            self.assertLessEqual(node.end_lineno - node.lineno + 1, 40, (name, node.name))
            self.assertEqual(node.decorator_list, [], (name, node.name))

    def test_imports(self):
        files = trees()
        imported = {}
        for name, tree in files.items():
            imported[name] = []
            for node in ast.walk(tree):
                self.assertNotIsInstance(node, ast.Import, name)
                if isinstance(node, ast.ImportFrom):
                    self.assertIn(node, tree.body, name)
                    self.check_import(files, name, node, imported)
        self.check_no_ring(imported)

    def check_import(self, files, name, node, imported):
        self.assertEqual(node.level, 0)
        names = [alias.name for alias in node.names]
        self.assertTrue(all(alias.asname is None for alias in node.names))
        if node.module in LIBRARY:
            self.assertLessEqual(set(names), LIBRARY[node.module])
            return
        top, _, source = node.module.partition(".")
        self.assertEqual(top, "lanternhouse", name)
        imported[name].append(source)
        bound = []
        for part in files[source].body:
            if isinstance(part, (ast.FunctionDef, ast.ClassDef)):
                bound.append(part.name)
            if isinstance(part, ast.Assign):
                bound.append(part.targets[0].id)
        self.assertLessEqual(set(names), set(bound), (name, source))

    def check_no_ring(self, imported):
        left = dict(imported)
        while left:
            free = [name for name, sources_of in left.items() if not set(sources_of) & set(left)]
            self.assertNotEqual(free, [], "files import from each other")
            for name in free:
                del left[name]

    def test_module_level(self):
        for name, tree in trees().items():
            for at, node in enumerate(tree.body):
                if at == 0:
                    self.assertIsInstance(node, ast.Expr, name)
                    self.assertIsInstance(node.value.value, str, name)
                elif isinstance(node, ast.Assign) and isinstance(node.value, ast.Dict):
                    self.check_table(tree, node)
                elif isinstance(node, ast.Assign):
                    self.assertIsInstance(node.value, ast.Constant, name)
                else:
                    self.assertIsInstance(node, (ast.ImportFrom, ast.FunctionDef, ast.ClassDef), name)

    def check_table(self, tree, table):
        """Check a dict at module level: plain keys, plain values or functions above it."""
        above = [
            node.name for node in tree.body if isinstance(node, ast.FunctionDef) and node.lineno < table.lineno
        ]
        for key, value in zip(table.value.keys, table.value.values):
            self.assertIsInstance(key, ast.Constant)
            if isinstance(value, ast.Name):
                self.assertIn(value.id, above)
            else:
                self.assertIsInstance(value, ast.Constant)

    def test_tables_are_only_read(self):
        for name, tree in trees().items():
            tables = [
                node.targets[0].id for node in tree.body
                if isinstance(node, ast.Assign) and isinstance(node.value, ast.Dict)
            ]
            for node in ast.walk(tree):
                for child in ast.iter_child_nodes(node):
                    if isinstance(child, ast.Name) and child.id in tables and isinstance(child.ctx, ast.Load):
                        read = isinstance(node, (ast.Subscript, ast.Compare))
                        got = isinstance(node, ast.Attribute) and node.attr == "get"
                        self.assertTrue(read or got, (name, child.id, node.lineno))

    def test_statements_and_expressions_that_are_not_used(self):
        barred = (
            ast.Global, ast.AsyncFunctionDef, ast.With, ast.Yield, ast.YieldFrom, ast.Lambda, ast.Div,
            ast.GeneratorExp, ast.AnnAssign, ast.Delete, ast.Nonlocal, ast.Starred, ast.NamedExpr,
        )
        self.assertEqual([(name, ast.dump(node)) for name, node in nodes(barred)], [])

    def test_only_own_errors_are_caught(self):
        own = [node.name for node in trees()["errors"].body if isinstance(node, ast.ClassDef)]
        for name, node in nodes(ast.Try):
            for last in node.finalbody:
                self.assertIsInstance(last, ast.Assign, name)
                self.assertIsInstance(last.value, ast.Constant, name)
            for handler in node.handlers:
                self.assertIn(handler.type.id, own, name)

    def test_is_stands_beside_none_true_and_false(self):
        for name, node in nodes(ast.Compare):
            if isinstance(node.ops[0], (ast.Is, ast.IsNot)):
                self.assertIsInstance(node.comparators[0], ast.Constant, name)

    def test_constants(self):
        for name, node in nodes(ast.Constant):
            self.assertIsInstance(node.value, (int, str, type(None)), name)
            if isinstance(node.value, str):
                self.assertNotIn("%", node.value, name)

    def test_names(self):
        taken = set(dir(builtins)) | WORDS
        for name, tree in trees().items():
            imported = [
                alias.name for node in tree.body if isinstance(node, ast.ImportFrom) for alias in node.names
            ]
            classes = [node.name for node in tree.body if isinstance(node, ast.ClassDef)]
            bound = [node.id for node in ast.walk(tree) if isinstance(node, ast.Name) and isinstance(node.ctx, ast.Store)]
            bound += [node.arg for node in ast.walk(tree) if isinstance(node, ast.arg)]
            functions = [node.name for node in ast.walk(tree) if isinstance(node, ast.FunctionDef)]
            for word in bound + functions:
                self.assertNotIn(word, taken, name)
                self.assertTrue(not word.startswith("__") or word in DOUBLE, (name, word))
            for word in bound:
                self.assertNotIn(word, imported + classes, name)

    def test_builtins_that_are_called(self):
        own = set(dir(builtins))
        errors = {"ValueError"}
        for name, node in nodes(ast.Name):
            if node.id in own:
                self.assertIn(node.id, CALLED | errors, name)

    def test_what_a_loop_goes_over_is_not_changed_in_it(self):
        for name, function in nodes(ast.FunctionDef):
            for node in ast.walk(function):
                if isinstance(node, ast.For):
                    walked = with_other_names(function, walked_names(node.iter))
                    changed = set().union(*[changed_names(part) for part in node.body])
                    self.assertEqual(walked & changed, set(), (name, function.name, node.lineno))

    def test_functions_and_classes_are_explained(self):
        for name, node in nodes((ast.FunctionDef, ast.ClassDef)):
            if not node.name.startswith("__"):
                self.assertIsNotNone(ast.get_docstring(node), (name, node.name))

    def test_sets_are_used_on_the_spot(self):
        for name, tree in trees().items():
            allowed = []
            for node in ast.walk(tree):
                if isinstance(node, ast.Call) and isinstance(node.func, ast.Name) and node.func.id in ("sorted", "len"):
                    allowed += [part for argument in node.args for part in ast.walk(argument)]
                if isinstance(node, ast.Compare):
                    allowed += [part for side in [node.left] + node.comparators for part in ast.walk(side)]
            for node in ast.walk(tree):
                made = isinstance(node, ast.Call) and isinstance(node.func, ast.Name) and node.func.id == "set"
                if made or isinstance(node, (ast.Set, ast.SetComp)):
                    self.assertIn(node, allowed, name)


if __name__ == "__main__":
    unittest.main()
