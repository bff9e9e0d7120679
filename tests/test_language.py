"""The rules of the language that can be read off the files, and where the interface is defined."""

import ast
import builtins
import pathlib
import unittest

FOLDER = pathlib.Path(__file__).resolve().parent.parent / "juststeps"
FILES = sorted(path for path in FOLDER.iterdir() if path.name != "__pycache__")
TREES = {path.stem: ast.parse(path.read_text()) for path in FILES if path.suffix == ".py"}

INTERFACE = {
    "programs": ("is_program(thing)", "write_program(program)", "read_program(text)"),
    "checks": ("check(program)", "checked(program)"),
    "cores": ("is_core(thing)", "way(core, name, row)", "event_rows(core, name)"),
    "lowering": ("lowered(program)",),
    "plain": ("is_value(core, kind, thing)", "run_plain(core, name, args, limit)", "passed(core, name, args, limit)",
              "run_priced(core, prices, name, args, limit)"),
    "rewrites": ("rewritten(core, step)", "replayed(core, log)", "improve(core, most)"),
    "images": ("is_image(thing)", "fits(core, image)", "write_image(image)", "read_image(text)"),
    "machine": ("run_image(core, image, name, args, limit)", "trace_image(core, image, name, args, limit)"),
    "plaincode": ("plain_code(core)", "plain_table(core)"),
    "compiling": ("compile_core(core, effort)",),
    "codejudge": ("judge_code(core, image)", "stretches(core, image)"),
    "ratios": ("ratio(top, bottom)", "plus(a, b)", "minus(a, b)", "product(a, b)", "quotient(a, b)", "below(a, b)"),
    "lines": ("keeps(system, thing)", "refutes(system, thing)", "is_least(system, line, thing)", "solve(system)",
              "least(system, line)"),
    "measures": ("measured(core, measures, number, words)", "never_below(core, measures)"),
    "books": ("is_book(core, thing)", "claimed(core, book, index, args)", "left(core, book, index, words)",
              "roomed(core, book, name, args)", "keeps_needs(core, book, name, args)", "bounds(core, book, name, args)"),
    "duties": ("duties(core, prices, book)",),
    "showing": ("show(never, goal, hints)", "is_open(never, goal, hints, thing)", "show_book(core, prices, book)"),
    "judging": ("is_shown(never, goal, hints, thing)", "book_holds(core, prices, book, thing)",
                "first_unshown(core, prices, book, showings)"),
    "finding": ("claim_lines(core, prices, book, template)", "claims_at(core, prices, book, template, point)",
                "find_claims(core, prices, book, template)", "best_claims(core, prices, book, template, name, weights)",
                "with_claims(core, prices, book, showings, claims, more)", "rank_lines(core, prices, book, levels, ins)",
                "ranks_at(core, prices, book, levels, ins, point)", "find_ranks(core, prices, book, levels, ins)",
                "room_lines(core, prices, book, ins)", "rooms_at(core, prices, book, ins, point)",
                "find_rooms(core, prices, book, ins)"),
    "whole": ("built(text, log, effort)", "contradicted(source, log, image, book, showings, name, args, limit)"),
}
CAUGHT = {"checks": "NotChecked", "codejudge": "Refused"}
LIBRARY = {"heapq": ("heappush", "heappop"), "math": ("gcd", "lcm")}
BUILTINS = ("len range enumerate zip min max sum abs sorted reversed int str bool bytes list tuple dict set frozenset "
            "isinstance ord repr any all divmod super ValueError").split()
METHODS = ("append clear copy count endswith extend find get index insert isalnum isalpha isascii isdigit islower "
           "isspace isupper items join keys pop remove replace reverse setdefault split startswith strip update "
           "values").split()
BARRED = ("register mro elements open input law attrgetter breakpoint builtins compile copyright credits delattr dir "
          "eval exec exit gc globals help id importlib license locals os quit setattr type vars sys next iter map "
          "hash format").split()
WORDS = ("type", "typing", "enum", "Enum", "Generic", "Protocol", "namedtuple", "dataclass", "overload", "_wall")


def nodes(kind):
    for stem, tree in TREES.items():
        for node in ast.walk(tree):
            if isinstance(node, kind):
                yield stem, node


def bound_names(tree):
    """All names that a file binds anywhere."""
    for node in ast.walk(tree):
        if isinstance(node, (ast.FunctionDef, ast.ClassDef)):
            yield node.name
        elif isinstance(node, ast.arg):
            yield node.arg
        elif isinstance(node, ast.Name) and not isinstance(node.ctx, ast.Load):
            yield node.id
        elif isinstance(node, ast.alias):
            yield node.name
        elif isinstance(node, ast.ExceptHandler) and node.name:
            yield node.name


class FilesTest(unittest.TestCase):
    def test_the_folder_has_nothing_but_files_of_the_package(self):
        for path in FILES:
            self.assertTrue(path.is_file() and path.suffix == ".py" and path.name == path.name.lower(), path)
        self.assertLessEqual(len(FILES), 100)
        self.assertIn("__init__", TREES)

    def test_sizes_and_signs(self):
        for path in FILES:
            text = path.read_text()
            self.assertTrue(all(" " <= sign <= "~" or sign == "\n" for sign in text), path)
            self.assertLessEqual(len(text.splitlines()), 399, path)
            self.assertLessEqual(max(map(len, text.splitlines())), 120, path)
        for stem, node in nodes(ast.FunctionDef):
            self.assertLessEqual(node.end_lineno - node.lineno + 1, 40, (stem, node.name))

    def test_words_that_do_not_occur(self):
        for stem, node in nodes((ast.Name, ast.Attribute, ast.arg, ast.FunctionDef, ast.ClassDef)):
            for field in ("id", "attr", "arg", "name"):
                self.assertNotIn(getattr(node, field, None), WORDS, stem)
        for stem, node in nodes(ast.Constant):
            if isinstance(node.value, str):
                self.assertNotIn("%", node.value)
            self.assertNotIsInstance(node.value, (float, complex), stem)


class NamesTest(unittest.TestCase):
    def test_imports(self):
        after = {}
        for stem, tree in TREES.items():
            after[stem] = []
            for node in ast.walk(tree):
                self.assertNotIsInstance(node, ast.Import, stem)
                if isinstance(node, ast.ImportFrom):
                    self.assertIn(node, tree.body, stem)
                    if node.module in LIBRARY:
                        self.assert_only_called(stem, tree, [alias.name for alias in node.names], LIBRARY[node.module])
                        continue
                    package, _, name = node.module.partition(".")
                    self.assertEqual((package, node.level), ("juststeps", 0), stem)
                    self.assertIn(name, TREES)
                    after[stem].append(name)
                    defined = list(self.bound_at_top(TREES[name]))
                    for alias in node.names:
                        self.assertIsNone(alias.asname)
                        self.assertIn(alias.name, defined, (stem, name))
        while after:
            free = [stem for stem, names in after.items() if not any(name in after for name in names)]
            self.assertTrue(free, f"files that import from each other: {sorted(after)}")
            for stem in free:
                del after[stem]

    def assert_only_called(self, stem, tree, names, known):
        called = [id(node.func) for node in ast.walk(tree) if isinstance(node, ast.Call) and not node.keywords]
        for name in names:
            self.assertIn(name, known, stem)
            self.assertNotIn(name, [bound for bound in bound_names(tree) if bound not in names], stem)
        for node in ast.walk(tree):
            if isinstance(node, ast.Name) and node.id in names:
                self.assertIn(id(node), called, (stem, node.lineno))

    def bound_at_top(self, tree):
        for node in tree.body:
            if isinstance(node, (ast.FunctionDef, ast.ClassDef)):
                yield node.name
            elif isinstance(node, ast.Assign):
                yield node.targets[0].id

    def test_a_module_has_only_what_it_may(self):
        for stem, tree in TREES.items():
            for at, node in enumerate(tree.body):
                if at == 0:
                    self.assertIsInstance(ast.literal_eval(node.value), str, stem)
                    continue
                self.assertIsInstance(node, (ast.ImportFrom, ast.FunctionDef, ast.ClassDef, ast.Assign), stem)
                self.assertFalse(getattr(node, "decorator_list", None), stem)
            names = list(self.bound_at_top(tree))
            self.assertEqual(len(names), len(set(names)), stem)

    def test_no_name_of_a_builtin_a_class_or_an_import(self):
        for stem, tree in TREES.items():
            for name in bound_names(tree):
                self.assertNotIn(name, dir(builtins), stem)
                self.assertNotIn(name, BARRED, stem)
            taken = {alias.name for node in tree.body if isinstance(node, ast.ImportFrom) for alias in node.names}
            taken |= {node.name for node in tree.body if isinstance(node, ast.ClassDef)}
            for node in ast.walk(tree):
                if isinstance(node, ast.arg):
                    self.assertNotIn(node.arg, taken, stem)
                elif isinstance(node, ast.Name) and not isinstance(node.ctx, ast.Load):
                    self.assertNotIn(node.id, taken, stem)

    def test_builtins_and_methods(self):
        own = {node.name for _, node in nodes(ast.FunctionDef)}
        for stem, node in nodes(ast.Name):
            if node.id in dir(builtins):
                self.assertIn(node.id, BUILTINS, stem)
        for stem, node in nodes(ast.Call):
            if isinstance(node.func, ast.Attribute):
                self.assertIn(node.func.attr, own.union(METHODS), stem)
        methods = {name for kind in (str, int, list, dict, set, bytes, tuple) for name in dir(kind)}
        for stem, node in nodes(ast.ClassDef):
            for part in node.body:
                if isinstance(part, ast.FunctionDef) and part.name != "__init__":
                    self.assertNotIn(part.name, methods, stem)
        for stem, node in nodes(ast.Attribute):
            if isinstance(node.ctx, ast.Store):
                self.assertNotIn(node.attr, methods - {"index", "count", "title"}, stem)

    def test_no_name_is_a_method_and_an_attribute_in_one_class(self):
        for stem, node in nodes(ast.ClassDef):
            methods = {part.name for part in node.body if isinstance(part, ast.FunctionDef)}
            stored = {part.attr for part in ast.walk(node)
                      if isinstance(part, ast.Attribute) and isinstance(part.ctx, ast.Store)}
            self.assertFalse(methods & stored, (stem, node.name))


class StatementsTest(unittest.TestCase):
    def test_statements_and_expressions(self):
        barred = (ast.Global, ast.AsyncFunctionDef, ast.Await, ast.Try, ast.With, ast.Yield, ast.YieldFrom, ast.Set,
                  ast.SetComp, ast.Div, ast.MatMult, ast.AnnAssign, ast.NamedExpr)
        for stem, node in nodes(barred):
            # A try of the package turns an error of its own into a result.
            self.assertTrue(stem in CAUGHT and isinstance(node, ast.Try), (stem, node.lineno))
            self.assertEqual([handler.type.id for handler in node.handlers], [CAUGHT[stem]])

    def test_is_stands_with_none_and_truths(self):
        for stem, node in nodes(ast.Compare):
            for sign, side in zip(node.ops, node.comparators):
                if isinstance(sign, (ast.Is, ast.IsNot)):
                    self.assertIn(getattr(side, "value", 0), (None, True, False), stem)

    def test_generator_expressions_stand_in_a_call_that_iterates_at_once(self):
        inside = [id(node.args[0]) for _, node in nodes(ast.Call) if isinstance(node.func, ast.Name) and node.args
                  and node.func.id in ("list", "tuple", "dict", "sorted", "sum", "min", "max", "any", "all")]
        for stem, node in nodes(ast.GeneratorExp):
            self.assertIn(id(node), inside, (stem, node.lineno))


class InterfaceTest(unittest.TestCase):
    def test_functions_are_defined_where_they_are_listed(self):
        for stem, heads in INTERFACE.items():
            found = {}
            for node in TREES[stem].body:
                if isinstance(node, ast.FunctionDef):
                    found[node.name] = f"{node.name}({ast.unparse(node.args)})"
            for head in heads:
                self.assertEqual(found.get(head.partition("(")[0]), head, stem)


if __name__ == "__main__":
    unittest.main()
