"""Tests that the files of the package keep to the rules of the language that can be seen in their text."""

import ast
import builtins
import importlib
import inspect
import pathlib
import re
import unittest

PACKAGE = pathlib.Path(__file__).resolve().parent.parent / "scarp"
FILES = sorted(PACKAGE.glob("*.py"))

INTERFACE = {
    "errors": "ScarpError NotAllowed TooLarge Missing BadPaper BadForm Broken",
    "words": "is_word check_letters check_log log_text read_log",
    "patterns": "check_pattern count_nodes",
    "patterntexts": "pattern_text read_pattern",
    "machines": "check_machine room_behind lets least_machine turned joined machine_of first_log first_apart",
    "tables": "check_table times value_of least_logs table_of let_by paired",
    "green": ("right_class_of left_class_of both_class_of right_classes left_classes both_classes above idempotents "
              "unit_of group_class_of groups"),
    "bounds": "own_number bound_of weights_of judge_bound",
    "splits": "check_split height_of classes_of is_split judge_split",
    "builds": "split_of",
    "stands": "starts step possible freer freest",
    "shortfalls": "split_with shortfall least_height judge_shortfall",
    "index": "Index",
    "joint": "joint_table Panel",
    "ends": ("check_wish first_end last_end first_start last_start count_slices shortest longest cutting"),
    "guesses": "sets_of least_for_all short_logs",
    "papers": "judge_enough judge_more read_split",
    "games": "play_of judge_labeller judge_attack least_at_once least_delay",
    "players": "Labeller Attack",
    "store": "Store",
    "storetexts": "load_store",
    "lines": "read_command",
    "desk": "run_script",
    "stocks": "check_stock check_demand all_slices row_of open_slice",
    "cases": "least_stock too_few judge_few",
    "schemes": "scheme_number scheme_stock cut_number cut_paper judge_cuts",
    "losses": "first_loss check_weights total_of best_stock",
    "shelf": "Shelf",
    "growing": "full_choices state_after pieces_of most_stored most_needed",
    "growths": "growth ranks_paper judge_rule judge_ranks greatest_window greatest_log greatest_stamps",
    "growers": "Grower",
    "windows": "Window cost_of",
    "keeping": "check_habit solve_keeping judge_kept judge_lost least_makes",
    "keepers": "Keeper",
    "trees": "built joined cut_at judge_tree",
    "edits": "Line",
    "unseen": "check_reports count_logs log_at letters_at values_between",
    "questions": ("check_asking least_questions question_tree answer_paper judge_questions judge_answers "
                  "fixed_questions"),
    "askers": "Asker Answerer",
}
CLASS_METHODS = {
    "index Index": "value pieces lower_right lower_left class_at step_at",
    "joint Panel": "lets pieces",
    "players Labeller": "give levels log finish back",
    "players Attack": "letters levels options answer",
    "store Store": ("letters log readers bars table read bar forget allow append extend cut lets wish levels steady "
                    "pieces changes undo image"),
    "shelf Shelf": "value pieces change log stock products",
    "growers Grower": "append place kept value pieces products copy",
    "windows Window": "push pop value letters stored made",
    "keepers Keeper": "push pop value letters state made",
    "edits Line": "put take change move back log tree made pieces value",
    "askers Asker": "question answer told asked back",
    "askers Answerer": "answer asked back two",
}
CONSTANTS = {
    "words": {"MAX_WORD": 8, "MAX_LETTERS": 4, "MAX_LOG": 400}, "patterns": {"MAX_NODES": 30},
    "patterntexts": {"MAX_PATTERN_TEXT": 1000, "MAX_GROUPS": 40}, "machines": {"MAX_ROOMS": 8},
    "tables": {"MAX_ELEMENTS": 40}, "splits": {"MAX_LEVELS": 40, "MAX_HEIGHT": 4}, "shortfalls": {"MAX_KEPT": 60},
    "joint": {"MAX_READERS": 4}, "guesses": {"MAX_SETS": 300}, "games": {"MAX_DELAY": 2, "MAX_POSITIONS": 975},
    "store": {"MAX_NUMBER": 999999, "MAX_STEADY": 3, "MAX_IMAGE": 9000}, "desk": {"MAX_SCRIPT": 4000, "MAX_LINES": 60},
    "stocks": {"MAX_SPAN": 60, "MAX_STOCK": 600, "MAX_PIECES": 6}, "cases": {"MAX_CASED": 12, "MAX_CASES": 1000},
    "losses": {"MAX_WEIGHT": 99, "MAX_LOST": 2, "MAX_TRIED": 2000},
    "growing": {"MAX_WINDOW": 12, "MAX_PIECES": 6, "MAX_BACKS": 3}, "growths": {"MAX_MET": 2000},
    "windows": {"MOVES": ("in", "out", "ask")},
    "keeping": {"MAX_HABIT": 4, "MAX_WIDE": 5, "MAX_MAKES": 3, "MAX_ASKS": 3}, "edits": {"MAX_LINE": 2000},
    "unseen": {"MAX_HIDDEN": 40, "MAX_REPORTS": 40, "MAX_WRONG": 2, "MAX_HELD": 200},
    "questions": {"MAX_ALLOWED": 8, "MAX_LOGS": 81, "MAX_LOOKS": 2000, "MAX_QUESTIONS": 4},
}

ALLOWED_BUILTINS = """len range enumerate zip min max sum abs sorted reversed int str bool list tuple dict isinstance
    ord repr any all divmod ValueError KeyError""".split()
BARRED_NAMES = """mro elements open input law version_info with_traceback add_note register attrgetter breakpoint
    builtins compile copyright credits delattr dir eval exec exit gc getattr globals hasattr help id importlib license
    locals methodcaller os quit setattr super type vars sys""".split()
BARRED_WORDS = """type typing typing_extensions enum Enum namedtuple dataclass overload contextmanager TYPE_CHECKING
    abstractmethod Protocol Generic _wall""".split()
METHODS = """append clear copy count endswith extend find get index insert isdigit items join keys lower partition pop
    remove replace reverse setdefault split startswith strip update upper values""".split()
CHANGING = "append clear extend insert pop remove reverse setdefault update sort".split()
NODES = (ast.Module, ast.FunctionDef, ast.ClassDef, ast.arguments, ast.arg, ast.Return, ast.Assign, ast.AugAssign,
         ast.For, ast.While, ast.If, ast.Raise, ast.Try, ast.ExceptHandler, ast.ImportFrom, ast.alias, ast.Expr,
         ast.Break, ast.Continue, ast.Pass,
         ast.BoolOp, ast.And, ast.Or, ast.BinOp, ast.Add, ast.Sub, ast.Mult, ast.FloorDiv, ast.Mod, ast.UnaryOp,
         ast.Not, ast.USub, ast.Lambda, ast.IfExp, ast.Dict, ast.ListComp, ast.DictComp, ast.GeneratorExp,
         ast.comprehension, ast.Compare, ast.Eq, ast.NotEq, ast.Lt, ast.LtE, ast.Gt, ast.GtE, ast.Is, ast.IsNot,
         ast.In, ast.NotIn, ast.Call, ast.keyword, ast.JoinedStr, ast.FormattedValue, ast.Constant, ast.Attribute,
         ast.Subscript, ast.Name, ast.List, ast.Tuple, ast.Slice, ast.Load, ast.Store)
AT_ONCE = "zip enumerate reversed range".split()
TAKERS = "list tuple dict sorted sum any all min max enumerate zip reversed".split()


def bound_names(tree):
    """All names that a file gives a meaning."""
    names = []
    for node in ast.walk(tree):
        if isinstance(node, (ast.FunctionDef, ast.ClassDef)):
            names.append(node.name)
        elif isinstance(node, ast.arg):
            names.append(node.arg)
        elif isinstance(node, ast.Name) and isinstance(node.ctx, ast.Store):
            names.append(node.id)
        elif isinstance(node, ast.ExceptHandler) and node.name is not None:
            names.append(node.name)
    return names


def functions_of(tree):
    """All functions and methods of a file."""
    return [node for node in ast.walk(tree) if isinstance(node, ast.FunctionDef)]


class LanguageTest(unittest.TestCase):
    def each_tree(self):
        return [(file, ast.parse(file.read_text())) for file in FILES]

    def test_package(self):
        self.assertEqual([file for file in PACKAGE.iterdir() if file.name != "__pycache__" and file.suffix != ".py"], [])
        self.assertIn(PACKAGE / "__init__.py", FILES)

    def test_size_and_characters(self):
        for file, tree in self.each_tree():
            text = file.read_text()
            self.assertTrue(all(sign == "\n" or " " <= sign <= "~" for sign in text))
            self.assertLessEqual(text.count("\n"), 399)
            self.assertLessEqual(max(len(line) for line in text.split("\n")), 120)
            for function in functions_of(tree):
                self.assertLessEqual(function.end_lineno - function.lineno + 1, 40, function.name)
                self.assertEqual(function.decorator_list, [])

    def test_parts_of_the_language(self):
        for _, tree in self.each_tree():
            for node in ast.walk(tree):
                self.assertIsInstance(node, NODES, getattr(node, "lineno", 0))
                if isinstance(node, ast.Constant):
                    self.assertNotIsInstance(node.value, (float, complex, bytes))
                if isinstance(node, (ast.Is, ast.IsNot)):
                    continue
                if isinstance(node, ast.Compare) and isinstance(node.ops[0], (ast.Is, ast.IsNot)):
                    self.assertIsNone(node.comparators[0].value)

    def test_module_level(self):
        for _, tree in self.each_tree():
            for node in tree.body:
                self.assertIsInstance(node, (ast.ImportFrom, ast.FunctionDef, ast.ClassDef, ast.Assign, ast.Expr))
                if isinstance(node, ast.Expr):
                    self.assertIsInstance(node.value, ast.Constant)
                if isinstance(node, ast.Assign):
                    self.assertEqual(len(node.targets), 1)
                    self.assertTrue(self.is_plain(node.value, tree), ast.unparse(node))

    def is_plain(self, value, tree):
        """Whether a value at module level is a plain one, or a dict of functions defined above it."""
        if isinstance(value, ast.Dict) and all(isinstance(part, ast.Name) for part in value.values):
            above = [node.name for node in tree.body if isinstance(node, ast.FunctionDef) and node.lineno < value.lineno]
            return all(part.id in above for part in value.values)
        ast.literal_eval(value)
        return True

    def test_handlers(self):
        # Only errors of the program are caught, and an `as` is only asked for its attributes.
        own = INTERFACE["errors"].split()
        for _, tree in self.each_tree():
            for node in ast.walk(tree):
                if isinstance(node, ast.Try):
                    self.assertEqual((node.finalbody, node.orelse), ([], []))
                    for handler in node.handlers:
                        self.assertIn(handler.type.id, own)
                        asked = [part.value.id for part in ast.walk(handler)
                                 if isinstance(part, ast.Attribute) and isinstance(part.value, ast.Name)]
                        named = [part.id for part in ast.walk(handler) if isinstance(part, ast.Name)]
                        self.assertEqual(asked.count(handler.name), named.count(handler.name))
                if isinstance(node, ast.Raise):
                    self.assertIsNone(node.cause)
                    self.assertIn(node.exc.func.id, own)

    def test_imports(self):
        uses = {}
        for file, tree in self.each_tree():
            own = "scarp." + file.stem
            uses[own] = []
            for node in ast.walk(tree):
                if isinstance(node, ast.ImportFrom):
                    self.assertIn(node, tree.body)
                    self.assertEqual((node.level, node.module.split(".")[0]), (0, "scarp"))
                    uses[own].append(node.module)
                    source = ast.parse((PACKAGE / (node.module.split(".")[1] + ".py")).read_text())
                    for alias in node.names:
                        self.assertIsNone(alias.asname)
                        self.assertIn(alias.name, self.top_names(source))
        while uses:
            free = [name for name in uses if not any(other in uses for other in uses[name])]
            self.assertTrue(free, "files import from each other")
            uses = {name: uses[name] for name in uses if name not in free}

    def top_names(self, tree):
        """The names that a file defines itself at module level."""
        plain = [node.targets[0].id for node in tree.body if isinstance(node, ast.Assign)]
        return plain + [node.name for node in tree.body if isinstance(node, (ast.FunctionDef, ast.ClassDef))]

    def test_one_binding(self):
        for _, tree in self.each_tree():
            imported = [a.name for node in tree.body if isinstance(node, ast.ImportFrom) for a in node.names]
            names = imported + self.top_names(tree)
            self.assertEqual(len(names), len(set(names)))
            classes = [node.name for node in tree.body if isinstance(node, ast.ClassDef)]
            for function in functions_of(tree):
                local = bound_names(function)
                self.assertEqual([name for name in local if name in imported + classes], [], function.name)
            for node in ast.walk(tree):
                if isinstance(node, ast.ClassDef):
                    methods = [part.name for part in node.body if isinstance(part, ast.FunctionDef)]
                    stored = [part.attr for part in ast.walk(node)
                              if isinstance(part, ast.Attribute) and isinstance(part.ctx, ast.Store)]
                    self.assertEqual([name for name in stored if name in methods], [])

    def test_methods_and_attributes_have_other_names(self):
        methods, stored = [], []
        for _, tree in self.each_tree():
            for node in ast.walk(tree):
                if isinstance(node, ast.ClassDef):
                    methods.extend(part.name for part in node.body if isinstance(part, ast.FunctionDef))
                if isinstance(node, ast.Attribute) and isinstance(node.ctx, ast.Store):
                    stored.append(node.attr)
        self.assertEqual(set(methods) & set(stored), set())

    def test_names(self):
        for file, tree in self.each_tree():
            imported = [a.name for node in tree.body if isinstance(node, ast.ImportFrom) for a in node.names]
            own = imported + [name for name in bound_names(tree) if name != "__init__"]
            for name in own:
                self.assertFalse(hasattr(builtins, name), name)
                self.assertNotIn(name, BARRED_NAMES)
                self.assertFalse(name.startswith("__"), name)
            for node in ast.walk(tree):
                if isinstance(node, ast.Name) and isinstance(node.ctx, ast.Load):
                    self.assertNotEqual(node.id, "_")
                    self.assertIn(node.id, own + ALLOWED_BUILTINS)
                if isinstance(node, ast.Attribute):
                    self.assertNotIn(node.attr, BARRED_NAMES)
                if isinstance(node, ast.keyword):
                    self.assertNotIn(node.arg, BARRED_NAMES)
            for word in re.findall("[A-Za-z_]+", file.read_text()):
                self.assertNotIn(word, BARRED_WORDS)

    def test_methods(self):
        own = {function.name for _, tree in self.each_tree() for function in functions_of(tree)}
        for _, tree in self.each_tree():
            for node in ast.walk(tree):
                if isinstance(node, ast.Call) and isinstance(node.func, ast.Attribute):
                    self.assertIn(node.func.attr, METHODS + list(own))

    def test_strings(self):
        for file, tree in self.each_tree():
            for node in ast.walk(tree):
                if isinstance(node, ast.Constant) and isinstance(node.value, str):
                    self.assertNotIn("%", node.value)

    def test_iterated_at_once(self):
        for _, tree in self.each_tree():
            heads = []
            for node in ast.walk(tree):
                if isinstance(node, (ast.For, ast.comprehension)):
                    heads.append(node.iter)
                if isinstance(node, ast.Call) and isinstance(node.func, ast.Name) and node.func.id in TAKERS:
                    heads.extend(node.args[:1])
            for node in ast.walk(tree):
                if isinstance(node, ast.Call) and isinstance(node.func, ast.Name) and node.func.id in AT_ONCE:
                    self.assertIn(node, heads, node.lineno)
                if isinstance(node, ast.GeneratorExp):
                    self.assertIn(node, heads, node.lineno)

    def test_loops_leave_what_they_go_over(self):
        for _, tree in self.each_tree():
            for loop in ast.walk(tree):
                if isinstance(loop, ast.For):
                    heads = [node for node in ast.walk(loop.iter) if isinstance(node, (ast.Name, ast.Attribute))]
                    over = [ast.unparse(node) for node in heads]
                    for node in ast.walk(loop):
                        changed = None
                        if isinstance(node, ast.Subscript) and isinstance(node.ctx, ast.Store):
                            changed = node.value
                        elif isinstance(node, ast.Call) and isinstance(node.func, ast.Attribute):
                            changed = node.func.value if node.func.attr in CHANGING else None
                        if changed is not None:
                            self.assertNotIn(ast.unparse(changed), over, loop.lineno)


class InterfaceTest(unittest.TestCase):
    def test_everything_is_there(self):
        for module, names in INTERFACE.items():
            loaded = importlib.import_module("scarp." + module)
            for name in names.split():
                self.assertEqual(getattr(loaded, name).__module__, "scarp." + module)

    def test_constants(self):
        for module, constants in CONSTANTS.items():
            tree = ast.parse((PACKAGE / (module + ".py")).read_text())
            for name, value in constants.items():
                self.assertEqual(getattr(importlib.import_module("scarp." + module), name), value)
                self.assertIn(name, [node.targets[0].id for node in tree.body if isinstance(node, ast.Assign)])

    def test_methods_are_in_their_class(self):
        for path, names in CLASS_METHODS.items():
            module, name = path.split()
            for method in names.split():
                self.assertTrue(inspect.isfunction(vars(getattr(importlib.import_module("scarp." + module), name))[method]))


if __name__ == "__main__":
    unittest.main()
