"""The package stays within its subset of the language, as far as a look at its files can tell."""

import ast
import builtins
import importlib
import inspect
import pathlib
import unittest

PACKAGE = pathlib.Path(__file__).resolve().parent.parent / "streetpapers"
FILES = sorted(PACKAGE.glob("*.py"))

INTERFACE = {
    "tables": ["write_table(table)", "read_table(text)"],
    "floors": ["moved(floor, move)", "turned(floor, quarters)", "box(floor)", "write_floor(floor)",
               "read_floor(text)"],
    "walks": ["step(table, floor, walker)", "walk(table, floor, walker, many)"],
    "backs": ["can_be_undone(table)", "back(table, floor, walker, many)"],
    "papers": ["shows_paper(table, floor, walker, value)", "walker_at(table, floor, walker, paper, step)",
               "painted_at(table, floor, walker, paper, step)",
               "colour_at(table, floor, walker, paper, step, place)", "move_of(table, floor, walker, paper)"],
    "finders": ["find_paper(table, floor, walker, steps, most)", "soonest(table, floor, walker, paper)"],
    "corners": ["colour_rounds(table)", "never_bounded(table)", "bound_stand(table)"],
    "kin": ["asked(table, floor, walker, many)", "walks_alike(table, floor, walker, many, other)",
            "kin_count(table, floor, walker, many)"],
    "rings": ["ring_walk(table, floor, walker, wide, high, many)", "ring_life(table, floor, walker, wide, high)"],
    "teams": ["team_walk(table, floor, walkers, beats)", "never_cross(table, floor, walkers, papers)",
              "team_at(table, floor, walkers, papers, beat)", "team_painted_at(table, floor, walkers, papers, beat)",
              "team_colour_at(table, floor, walkers, papers, beat, place)"],
    "census": ["census(colours, steps, most)", "count_never_bounded(colours)"],
    "notes": ["write_paper(paper)", "write_walker(walker)", "read_paper(text)", "read_walker(text)"],
    "trails": ["Trail(table, floor, walker)", "read_trail(table, text)"],
    "sessions": ["Session(table)"],
    "desk": ["Desk(table)", "run(text, lines)"],
    "firsts": ["first_stood(table, floor, walker, paper, place)",
               "times_stood(table, floor, walker, paper, step, place)",
               "painted_box(table, floor, walker, paper, step)"],
    "likes": ["first_unlike(table, floor, walker, paper, other)",
              "what_matters(table, floor, walker, paper, corner, end)"],
    "grounds": ["ground_walk(table, ground, floor, walker, many)",
                "shows_ground_street(table, ground, floor, walker, first, period)",
                "ground_walker_at(table, ground, floor, walker, first, period, step)"],
    "tapes": ["tape_run(machine, tape, head, state, many)", "tape_by_walker(machine, tape, head, state, many)",
              "walker_table(machine)", "tape_stand(machine, tape, head, state)"],
    "catalogue": ["catalogue(table, wide, high, steps, most)"],
    "plans": ["play_plan(plan, floor, x, y, heading, many)", "table_of(plan)", "write_plan(plan)"],
    "planners": ["read_plan(text)"],
    "mirrors": ["mirrored_table(table)", "mirrored(floor)", "mirrored_walker(table, walker)", "is_own_mirror(table)"],
}
METHODS_OF = {
    "trails.Trail": ["go_on(many)", "length()", "walker_at(step)", "floor_at(step)", "back_to(step)", "visits(place)",
                     "trodden()", "write()"],
    "sessions.Session": ["walker()", "colour(place)", "painted()", "steps()", "floor()", "put(place, colour)",
                         "lay(floor)", "stand(walker)", "know(steps, most)", "go(many)", "undo()", "redo()"],
    "desk.Desk": ["ask(line)"],
}

BUILTINS = set("""len range enumerate zip min max sum abs sorted reversed int str bool list tuple dict set isinstance ord
    repr any all divmod map iter next ValueError KeyError IndexError LookupError TypeError ZeroDivisionError""".split())
METHODS = set("""append clear copy count endswith extend find get index insert isalnum isalpha isdigit islower isspace
    isupper items join keys ljust lower lstrip partition pop remove replace reverse rfind rjust rpartition rsplit
    rstrip setdefault split splitlines startswith strip update upper values zfill bit_length add discard sort
    isascii isdecimal removeprefix removesuffix""".split())
LIBRARY = {"math", "heapq", "itertools", "collections"}
BARRED = (ast.AsyncFunctionDef, ast.AsyncFor, ast.AsyncWith, ast.Await, ast.Global, ast.Import, ast.Div)
WORDS = {"type", "typing", "enum", "law", "register", "mro", "elements", "open", "input", "eval", "exec", "globals"}


def trees():
    return [(path, ast.parse(path.read_text("ascii"))) for path in FILES]


def bound_names(tree):
    """All names that a file gives a meaning, imports and attributes aside."""
    names = []
    for node in ast.walk(tree):
        if isinstance(node, ast.Name) and not isinstance(node.ctx, ast.Load):
            names.append(node.id)
        elif isinstance(node, (ast.FunctionDef, ast.ClassDef)):
            names.append(node.name)
        elif isinstance(node, ast.arg):
            names.append(node.arg)
        elif isinstance(node, ast.ExceptHandler) and node.name:
            names.append(node.name)
    return names


class FilesTest(unittest.TestCase):
    def test_the_folder_holds_plain_files_alone(self):
        held = [path for path in PACKAGE.iterdir() if path.name != "__pycache__"]
        self.assertEqual(sorted(held), FILES)
        for path in FILES:
            self.assertRegex(path.name, r"\A(__init__|[a-z][a-z0-9_]*)\.py\Z")

    def test_sizes_and_characters(self):
        for path in FILES:
            text = path.read_text("ascii")
            self.assertTrue(all(sign == "\n" or " " <= sign <= "~" for sign in text), path)
            lines = text.split("\n")
            self.assertLess(len(lines), 400, path)
            self.assertLessEqual(max(map(len, lines)), 120, path)

    def test_functions_are_short(self):
        for path, tree in trees():
            for node in ast.walk(tree):
                if isinstance(node, ast.FunctionDef):
                    self.assertLessEqual(node.end_lineno - node.lineno + 1, 40, (path, node.name))
                    self.assertEqual(node.decorator_list, [])

    def test_imports(self):
        uses = {}
        for path, tree in trees():
            uses[path.stem] = []
            for node in ast.walk(tree):
                if isinstance(node, ast.ImportFrom) and node.module not in LIBRARY:
                    self.assertIn(node, tree.body)
                    self.assertEqual((node.module.split(".")[0], node.level), ("streetpapers", 0))
                    other = node.module.split(".")[1]
                    defined = bound_names(ast.parse((PACKAGE / f"{other}.py").read_text()))
                    for name in node.names:
                        self.assertIsNone(name.asname)
                        self.assertIn(name.name, defined)
                        self.assertNotEqual(name.name[0], "_")
                    uses[path.stem].append(other)
        while uses:
            free = [name for name in uses if not any(other in uses for other in uses[name])]
            self.assertTrue(free, "files import from each other")
            for name in free:
                del uses[name]

    def test_module_level(self):
        for path, tree in trees():
            for at, node in enumerate(tree.body):
                if at == 0:
                    self.assertIsNotNone(ast.get_docstring(tree), path)
                    continue
                self.assertIsInstance(node, (ast.ImportFrom, ast.FunctionDef, ast.ClassDef, ast.Assign), path)
                if isinstance(node, ast.Assign):
                    self.assertEqual([type(target) for target in node.targets], [ast.Name])
                    self.assertFalse([part for part in ast.walk(node.value) if isinstance(part, ast.Call)])


class WordsTest(unittest.TestCase):
    def test_nothing_barred(self):
        for path, tree in trees():
            for node in ast.walk(tree):
                self.assertNotIsInstance(node, BARRED, path)
                if isinstance(node, ast.Constant):
                    self.assertNotIsInstance(node.value, (float, complex, bytes), path)

    def test_strings(self):
        for path, tree in trees():
            for node in ast.walk(tree):
                if isinstance(node, ast.Constant) and isinstance(node.value, str):
                    self.assertNotIn("%", node.value, path)
                    self.assertFalse(node.value.endswith(("._", ".__")))

    def test_names(self):
        for path, tree in trees():
            imported = [name.name for node in tree.body if isinstance(node, ast.ImportFrom) for name in node.names]
            classes = [node.name for node in tree.body if isinstance(node, ast.ClassDef)]
            for name in bound_names(tree):
                # Python's own prompt, which the examples use, keeps its last answer as a builtin _.
                self.assertFalse(name != "_" and name in vars(builtins), (path, name))
                self.assertFalse(name in WORDS or name.startswith("_wall"), (path, name))
                self.assertFalse(name.startswith("__") and name != "__init__", (path, name))
                self.assertNotIn(name, imported, path)
            self.assertEqual(len(classes), len(set(classes)))

    def test_builtins(self):
        for path, tree in trees():
            known = set(bound_names(tree))
            for node in tree.body:
                if isinstance(node, ast.ImportFrom):
                    known.update(name.name for name in node.names)
            for node in ast.walk(tree):
                if isinstance(node, ast.Name) and isinstance(node.ctx, ast.Load) and node.id not in known:
                    self.assertIn(node.id, BUILTINS, path)
                if isinstance(node, ast.Name) and isinstance(node.ctx, ast.Load):
                    self.assertNotEqual(node.id, "_", path)

    def test_methods(self):
        own = {node.name for _, tree in trees() for node in ast.walk(tree) if isinstance(node, ast.FunctionDef)}
        for path, tree in trees():
            for node in ast.walk(tree):
                if isinstance(node, ast.Call) and isinstance(node.func, ast.Attribute):
                    self.assertTrue(node.func.attr in own | METHODS, (path, node.func.attr))
                if isinstance(node, ast.Call) and isinstance(node.func, ast.Name) and node.func.id in BUILTINS:
                    words = {word.arg for word in node.keywords}
                    self.assertLessEqual(words, {"key", "reverse", "default", "start", "strict"}, path)


class InterfaceTest(unittest.TestCase):
    def test_each_function_stands_in_its_file(self):
        for name, functions in INTERFACE.items():
            module = importlib.import_module(f"streetpapers.{name}")
            for told in functions:
                function = getattr(module, told.split("(")[0])
                self.assertEqual(function.__module__, module.__name__)
                self.assertEqual(function.__name__ + str(inspect.signature(function)), told)

    def test_each_method_stands_in_its_class(self):
        for name, methods in METHODS_OF.items():
            module, holder = name.split(".")
            holder = getattr(importlib.import_module(f"streetpapers.{module}"), holder)
            for told in methods:
                method = vars(holder)[told.split("(")[0]]
                shown = method.__name__ + str(inspect.signature(method))
                self.assertEqual(shown.replace("(self, ", "(").replace("(self)", "()"), told)

    def test_no_class_has_a_method_and_an_attribute_of_one_name(self):
        for path, tree in trees():
            for holder in [node for node in ast.walk(tree) if isinstance(node, ast.ClassDef)]:
                methods = [node.name for node in holder.body if isinstance(node, ast.FunctionDef)]
                self.assertEqual(len(methods), len(set(methods)))
                for node in ast.walk(holder):
                    if isinstance(node, ast.Attribute) and isinstance(node.ctx, ast.Store):
                        self.assertNotIn(node.attr, methods, (path, holder.name))


if __name__ == "__main__":
    unittest.main()
