"""The interface as the document lists it, and the plainest rules of the language for the files of the package."""

import ast
import builtins
import importlib
import inspect
import pathlib
import unittest

PACKAGE = pathlib.Path(__file__).resolve().parent.parent / "anyprice"

INTERFACE = {
    "rows": {"least_rows": "amounts", "cost": "amount, prices"},
    "mixes": {"is_mix": "thing", "mix_sum": "mix", "is_mix_for": "target, others, thing, less=False",
              "mix_for": "target, others, less=False"},
    "pieces": {"corners_where": "many, cuts", "inside": "corners", "is_in_piece": "corners, prices"},
    "programs": {"is_rule": "sorts, thing", "Program": "sorts, rules", "made_of": "program, number, amounts"},
    "plans": {"is_plan": "program, thing", "plan_thing": "program, plan", "plan_amount": "program, plan",
              "done_of": "program, plan", "stood_of": "program, plan", "is_straight": "program, plan",
              "straightened": "program, plan", "grafted": "program, plan, row, other"},
    "heights": {"heights": "program", "how_many": "program, thing, most"},
    "handed": {"front_rules": "program, thing, name"},
    "fronts": {"front": "program, thing", "all_fronts": "program", "is_table": "program, thing"},
    "tops": {"plan_of": "program, thing, amount", "tops": "program, thing", "sure_rules": "program, thing, amount"},
    "budgets": {"cheapest_within": "program, thing, prices, budget", "plan_within": "program, thing, budget",
                "best_for": "program, thing, taste"},
    "costs": {"least_costs": "program, prices", "least_cost": "program, thing, prices",
              "best_amounts": "program, thing, prices", "best_plan": "program, thing, prices"},
    "potentials": {"are_potentials": "program, prices, thing", "tight_rules": "program, prices"},
    "hulls": {"hull": "program, thing", "standing": "program, thing, amount", "prices_for": "program, thing, amount",
              "mix_against": "program, thing, amount"},
    "maps": {"price_map": "amounts", "map_of": "program, thing", "walls": "amounts",
             "best_along": "amounts, begin, end"},
    "levels": {"level": "program, thing, bounds", "seen": "program, thing, kind",
               "topped": "program, head, thing, bounds"},
    "likes": {"alike": "program, one, other, kind", "parting": "program, one, other, kind"},
    "dearer": {"paper_for": "program, one, other, kind", "is_paper": "program, one, other, kind, thing",
               "never_dearer": "program, one, other, kind", "dearer_at": "program, one, other, kind"},
    "ratios": {"most_times": "program, one, other"},
    "exchanges": {"exchanged": "program, number, place, thing", "reached": "program, thing"},
    "holes": {"holes": "program", "with_uses": "program, names", "filled": "program, rules",
              "in_units": "program, units", "parting_filling": "program, one, other, names"},
    "holecosts": {"costs_by_hole": "program, thing, hole, prices", "costs_by_rule": "program, thing, number, prices"},
    "lives": {"Live": "program"},
    "idles": {"idle_rules": "program", "lean_rules": "program"},
    "further": {"least_owns": "program, sketch", "sides_of": "program, sketch, highs", "use_of": "program, rule",
                "is_needless": "program, rule, kind"},
    "asking": {"asked_through": "box, many", "box_hull": "box, many", "are_whole": "many, thing",
               "boxes_part": "one, other, many"},
    "programboxes": {"box_of": "program, thing", "box_within": "program, thing, bounds"},
    "choices": {"explaining": "n, choices", "gain": "n, choices", "is_gain": "n, choices, thing",
                "verdict": "n, choices, taken, others", "could_be": "n, choices, lot", "open_pairs": "n, choices, lot",
                "next_pair": "n, choices, lot"},
    "within": {"best_within": "amounts, piece", "weights_for": "amounts, piece, amount",
               "mix_under": "amounts, piece, amount", "surely_used": "program, thing, piece"},
    "regrets": {"worst_regret": "amounts, piece, amount", "least_worst": "amounts, piece"},
    "bulges": {"bulge": "amounts, piece", "is_bulge": "amounts, piece, thing"},
    "kept": {"kept": "amounts, one, other, share", "apart": "amounts, one, other, share",
             "are_apart": "amounts, one, other, share, thing"},
    "grammars": {"Grammar": "sorts, rules, faults"},
    "parses": {"is_parse": "grammar, name, text, thing", "parse_text": "grammar, parse",
               "parse_amount": "grammar, parse", "mended": "grammar, parse"},
    "texts": {"text_front": "grammar, name, text", "parse_with": "grammar, name, text, amount",
              "text_program": "grammar, name, text"},
    "bases": {"Base": "tables"},
    "questions": {"is_question": "base, thing", "rows_of": "base, question, words", "answer_of": "base, question"},
    "ties": {"tied_columns": "base, question, words", "closed_question": "base, question"},
    "operators": {"is_operator_tree": "base, question, thing", "tree_set": "base, question, tree",
                  "tree_order": "base, question, tree", "tree_amount": "base, question, tree"},
    "treeruns": {"run_tree": "base, question, tree"},
    "questionplans": {"question_program": "base, question", "plan_of_tree": "base, question, tree",
                      "tree_of_plan": "base, question, plan"},
    "questionfronts": {"question_front": "base, question", "tree_with": "base, question, amount",
                       "best_tree": "base, question, prices, budget"},
    "formsof": {"form_front": "base, question, tree", "with_modes": "base, question, tree, amount"},
    "trees": {"is_tree": "thing", "words_in": "tree", "worth_of": "tree, values"},
    "machines": {"Machine": "instructions"},
    "treeplans": {"tree_program": "machine, tree"},
    "alltrees": {"bare_tree": "machine", "over_tree": "machine, most"},
    "needless": {"needed_tree": "machine, word, prices"},
    "coderows": {"is_rows": "machine, thing", "tree_of_rows": "machine, rows", "is_code": "machine, tree, thing"},
    "coderuns": {"run_rows": "machine, rows, values"},
    "coding": {"code_of": "machine, tree, plan", "code_for": "machine, tree, amount"},
    "orders": {"fewest_registers": "machine, rows", "orders_of": "machine, rows"},
    "tested": {"is_tested": "base, thing", "tested_rows": "base, tested, words, numbers",
               "tested_answer": "base, tested"},
    "wholes": {"is_whole": "base, tested, machine, registers, thing",
               "whole_amount": "base, tested, machine, registers, whole"},
    "wholeruns": {"run_whole": "base, tested, machine, registers, whole"},
    "wholeplans": {"whole_front": "base, tested, machine, registers",
                   "whole_with": "base, tested, machine, registers, amount",
                   "best_whole": "base, tested, machine, registers, prices",
                   "whole_program": "base, tested, machine, registers"},
    "programtexts": {"write_program": "program", "read_program": "text", "write_plan": "plan",
                     "read_plan": "program, text"},
    "basetexts": {"write_base": "base", "read_base": "text", "write_tested": "base, tested",
                  "read_tested": "base, text"},
    "houses": {"House": "base, machine, registers"},
}
METHODS = {
    ("programs", "Program"): {"own_sorts": "", "all_rules": "", "things": "", "with_rule": "number, rule",
                              "without_rule": "number", "with_own": "number, own", "__eq__": "other", "__len__": ""},
    ("lives", "Live"): {"program_now": "", "put_rule": "number, rule", "take_rule": "number",
                        "new_own": "number, own", "front_now": "thing", "last_changes": "", "undo": "", "again": "",
                        "deeds_done": "", "twin": "", "try_out": "work", "__eq__": "other"},
    ("grammars", "Grammar"): {"own_sorts": "", "all_rules": "", "own_faults": "", "__eq__": "other"},
    ("bases", "Base"): {"all_tables": "", "with_row": "name, row", "without_row": "name, number", "__eq__": "other"},
    ("machines", "Machine"): {"instructions": "", "without": "word", "is_plain": "", "__eq__": "other"},
    ("houses", "House"): {"watch": "word, tested", "unwatch": "word", "put_row": "name, row",
                          "take_row": "name, number", "base_now": "", "watched": "", "front_now": "word",
                          "answer_now": "word", "whole_now": "word, prices", "last_changes": "",
                          "still_best": "word, whole, prices", "undo_last": "", "do_again": "", "deeds_done": "",
                          "twin_house": "", "try_out": "work", "__eq__": "other"},
}

LIBRARY = {
    "heapq": "heappush heappop heapify heapreplace heappushpop".split(),
    "math": "gcd lcm isqrt comb perm factorial".split(),
    "itertools": "product combinations permutations chain accumulate pairwise islice zip_longest".split(),
    "collections": ["defaultdict"],
}
BUILTINS = """len range enumerate zip min max sum abs sorted reversed int str bool bytes list tuple dict set frozenset
isinstance ord repr any all divmod pow getattr hasattr setattr iter next map Exception ValueError TypeError KeyError
IndexError LookupError ZeroDivisionError ArithmeticError OverflowError RuntimeError NotImplementedError AttributeError
StopIteration NotImplemented""".split()
BUILTIN_METHODS = """append clear copy count endswith extend find get index insert isalnum isalpha isdigit islower isspace
isupper items join keys ljust lower lstrip partition pop remove replace reverse rfind rjust rpartition rsplit rstrip
setdefault split splitlines startswith strip update upper values zfill bit_length add discard""".split()
BARRED_WORDS = """type typing enum Enum Generic Protocol ABC namedtuple register mro elements open input law vars dir
id compile eval exec exit help globals locals super""".split()


def files():
    return sorted(PACKAGE.glob("**/*.py"))


def parsed():
    return [(path, ast.parse(path.read_text(encoding="ascii"))) for path in files()]


def functions_in(tree):
    return [node for node in ast.walk(tree) if isinstance(node, ast.FunctionDef)]


def names_bound(node):
    """The parameters and local variables of a function."""
    found = [argument.arg for argument in node.args.args]
    return found + [inner.id for inner in ast.walk(node)
                    if isinstance(inner, ast.Name) and isinstance(inner.ctx, ast.Store)]


class Interface(unittest.TestCase):

    def check(self, found, file, parameters):
        self.assertEqual(found.__module__, "anyprice." + file)
        shown = str(inspect.signature(found)).strip("()")
        self.assertEqual(shown, parameters)

    def test_functions_and_classes(self):
        for file, names in INTERFACE.items():
            module = importlib.import_module("anyprice." + file)
            for name, parameters in names.items():
                self.check(getattr(module, name), file, parameters)

    def test_methods_stand_in_the_class_itself(self):
        for (file, name), methods in METHODS.items():
            kind = getattr(importlib.import_module("anyprice." + file), name)
            for method, parameters in methods.items():
                shown = str(inspect.signature(vars(kind)[method])).strip("()")
                self.assertEqual(shown, ", ".join(["self"] + ([parameters] if parameters else [])))


class Language(unittest.TestCase):

    def test_sizes_and_characters(self):
        for path, tree in parsed():
            lines = path.read_text(encoding="ascii").split("\n")
            self.assertLessEqual(len(lines) - 1, 399, path)
            self.assertLessEqual(max(len(line) for line in lines), 120, path)
            self.assertNotIn("\t", "".join(lines))
            for node in functions_in(tree):
                self.assertLessEqual(node.end_lineno - node.lineno + 1, 40, f"{path} {node.name}")

    def test_nothing_but_python_files(self):
        self.assertTrue((PACKAGE / "__init__.py").exists())
        self.assertLessEqual(len(files()), 100)
        others = [path for path in PACKAGE.glob("**/*") if path.suffix not in (".py", ".pyc") and path.name != "__pycache__"]
        self.assertEqual(others, [])

    def test_imports(self):
        leads = {}
        for path, tree in parsed():
            leads[path.stem] = []
            for node in ast.walk(tree):
                self.assertNotIsInstance(node, ast.Import, path)
                if isinstance(node, ast.ImportFrom):
                    self.check_import(path, tree, node)
                    leads[path.stem].append(node.module.rpartition(".")[2])
        order = []
        while len(order) < len(leads):
            ready = [name for name in leads if name not in order and all(
                lead in order or lead in LIBRARY for lead in leads[name])]
            self.assertTrue(ready, "files import from each other")
            order.extend(ready)

    def check_import(self, path, tree, node):
        self.assertIn(node, tree.body, path)
        self.assertEqual(node.level, 0, path)
        for alias in node.names:
            self.assertIsNone(alias.asname, path)
            if node.module in LIBRARY:
                self.assertIn(alias.name, LIBRARY[node.module], path)
            else:
                self.assertTrue(node.module.startswith("anyprice."), path)
                self.assertIn(alias.name, self.defined_in(node.module.rpartition(".")[2]), f"{path} {alias.name}")

    def defined_in(self, file):
        """The names that a file itself defines."""
        found = []
        for node in ast.parse((PACKAGE / (file + ".py")).read_text(encoding="ascii")).body:
            if isinstance(node, (ast.FunctionDef, ast.ClassDef)):
                found.append(node.name)
            if isinstance(node, ast.Assign):
                found.extend(target.id for target in node.targets)
        return found

    def test_names(self):
        for path, tree in parsed():
            imported = [alias.name for node in tree.body if isinstance(node, ast.ImportFrom) for alias in node.names]
            classes = [node.name for node in tree.body if isinstance(node, ast.ClassDef)]
            for node in functions_in(tree):
                for name in names_bound(node):
                    self.assertNotIn(name, imported + classes + dir(builtins), f"{path} {node.name}")
            for node in ast.walk(tree):
                if isinstance(node, ast.Name):
                    self.assertNotIn(node.id, BARRED_WORDS, path)
                    if isinstance(node.ctx, ast.Load):
                        self.assertNotEqual(node.id, "_", path)
                        self.assertTrue(not hasattr(builtins, node.id) or node.id in BUILTINS, f"{path} {node.id}")
                if isinstance(node, (ast.FunctionDef, ast.ClassDef)) and not node.name.startswith("__"):
                    self.assertFalse(hasattr(builtins, node.name), f"{path} {node.name}")

    def test_methods_of_builtin_values(self):
        own = [node.name for _, tree in parsed() for node in functions_in(tree)]
        for path, tree in parsed():
            for node in ast.walk(tree):
                if isinstance(node, ast.Call) and isinstance(node.func, ast.Attribute):
                    self.assertIn(node.func.attr, own + BUILTIN_METHODS, path)

    def test_what_is_left_out(self):
        left_out = (ast.Global, ast.AsyncFunctionDef, ast.Div, ast.Await)
        for path, tree in parsed():
            for node in ast.walk(tree):
                self.assertNotIsInstance(node, left_out, path)
                if isinstance(node, ast.Constant):
                    self.assertNotIsInstance(node.value, float, path)
                    self.assertFalse(isinstance(node.value, str) and "%" in node.value, path)
                if isinstance(node, ast.Compare) and isinstance(node.ops[0], (ast.Is, ast.IsNot)):
                    self.assertIn(ast.unparse(node.comparators[0]), ("None", "True", "False"), path)

    def test_stars_in_calls(self):
        for path, tree in parsed():
            for node in ast.walk(tree):
                for part in node.args if isinstance(node, ast.Call) else []:
                    if isinstance(part, ast.Starred):
                        self.assertIsInstance(part.value, (ast.Name, ast.Attribute), f"{path} {node.lineno}")

    def test_module_level(self):
        for path, tree in parsed():
            for node in tree.body:
                self.assertIsInstance(
                    node, (ast.FunctionDef, ast.ClassDef, ast.ImportFrom, ast.Assign, ast.Expr), path)
                if isinstance(node, ast.Assign):
                    ast.literal_eval(node.value)
                if isinstance(node, ast.FunctionDef):
                    self.assertEqual(node.decorator_list, [], path)

    def test_docstrings(self):
        for path, tree in parsed():
            for node in [tree] + tree.body:
                if isinstance(node, (ast.Module, ast.FunctionDef, ast.ClassDef)):
                    self.assertTrue(ast.get_docstring(node), path)

    def test_functions_do_not_hide_those_of_their_file(self):
        for path, tree in parsed():
            names = [node.name for node in tree.body if isinstance(node, ast.FunctionDef)]
            for node in functions_in(tree):
                for name in names_bound(node):
                    self.assertNotIn(name, names, f"{path} {node.name}")

    def test_sets_are_sorted_measured_or_asked_at_once(self):
        for path, tree in parsed():
            allowed = set()
            for node in ast.walk(tree):
                if isinstance(node, ast.Call) and isinstance(node.func, ast.Name) and node.func.id in ("sorted", "len"):
                    for part in node.args[:1]:
                        allowed.update(id(inner) for inner in ast.walk(part))
            for node in ast.walk(tree):
                is_set = isinstance(node, (ast.Set, ast.SetComp))
                is_set = is_set or isinstance(node, ast.Call) and isinstance(node.func, ast.Name) and node.func.id == "set"
                if is_set:
                    self.assertIn(id(node), allowed, f"{path} {node.lineno}")

    def test_lists_where_a_class_compares(self):
        for path, tree in parsed():
            for node in ast.walk(tree):
                if isinstance(node, ast.Call) and isinstance(node.func, ast.Name):
                    if node.func.id in ("any", "all", "min", "max", "sum", "sorted"):
                        self.assertFalse(any(isinstance(part, ast.GeneratorExp) for part in node.args), path)
                if isinstance(node, ast.Call) and isinstance(node.func, ast.Attribute):
                    self.assertNotEqual(node.func.attr, "sort", path)

    def test_methods_are_called_where_they_stand(self):
        methods, attributes = {}, {}
        for path, tree in parsed():
            for kind in [node for node in tree.body if isinstance(node, ast.ClassDef)]:
                for method in functions_in(kind):
                    methods[method.name] = path
                    for node in ast.walk(method):
                        if isinstance(node, ast.Attribute) and isinstance(node.ctx, ast.Store):
                            attributes[node.attr] = path
        self.assertEqual(sorted(set(methods) & set(attributes)), [])
        values = ["", 0, [], {}, set(), b"", ()]
        for name in attributes:
            self.assertTrue(name == "index" or not any(hasattr(value, name) for value in values), name)
        for path, tree in parsed():
            called = [id(node.func) for node in ast.walk(tree) if isinstance(node, ast.Call)]
            for node in ast.walk(tree):
                if isinstance(node, ast.Attribute) and isinstance(node.ctx, ast.Load):
                    self.assertIn(node.attr, list(methods) + list(attributes) + BUILTIN_METHODS, path)
                    if node.attr in methods or node.attr in BUILTIN_METHODS:
                        self.assertTrue(id(node) in called or node.attr in attributes, f"{path} {node.lineno}")

    def test_what_is_iterated_at_once(self):
        lazy = ["zip", "enumerate", "reversed", "range", "map", "permutations", "product", "combinations"]
        hosts = ["list", "tuple", "dict", "sorted", "sum", "any", "all", "enumerate", "zip", "min", "max", "len", "reversed", "permutations"]
        for path, tree in parsed():
            fine = set()
            for node in ast.walk(tree):
                if isinstance(node, (ast.For, ast.comprehension)):
                    fine.add(id(node.iter))
                if isinstance(node, ast.Call) and isinstance(node.func, ast.Name) and node.func.id in hosts:
                    fine.update(id(part) for part in node.args[:1])
            for node in ast.walk(tree):
                self.assertNotIsInstance(node, (ast.GeneratorExp, ast.Yield, ast.Lambda), path)
                if isinstance(node, ast.Call):
                    name = node.func.id if isinstance(node.func, ast.Name) else node.func.attr
                    if name in lazy or (isinstance(node.func, ast.Attribute) and name in ("items", "keys", "values")):
                        self.assertIn(id(node), fine, f"{path} {node.lineno}")

    def test_names_of_inner_comprehensions(self):
        kinds = (ast.ListComp, ast.SetComp, ast.DictComp)
        for path, tree in parsed():
            for outer in ast.walk(tree):
                if isinstance(outer, kinds):
                    taken = self.names_of(outer)
                    for inner in ast.walk(outer):
                        if isinstance(inner, kinds) and inner is not outer:
                            self.assertFalse(self.names_of(inner) & taken, f"{path} {inner.lineno}")
            for function in functions_in(tree):
                told = [node for node in ast.walk(function) if isinstance(node, kinds)]
                within = {id(node) for inner in told for node in ast.walk(inner)}
                taken = {node.id for node in ast.walk(function)
                         if isinstance(node, ast.Name) and isinstance(node.ctx, ast.Store) and id(node) not in within}
                taken |= {argument.arg for argument in function.args.args}
                for outer in told:
                    for inner in ast.walk(outer):
                        if isinstance(inner, kinds) and inner is not outer:
                            self.assertFalse(self.names_of(inner) & taken, f"{path} {inner.lineno}")

    def names_of(self, comprehension):
        return {node.id for part in comprehension.generators for node in ast.walk(part.target) if isinstance(node, ast.Name)} - {"_"}

    def test_words_that_stand_in_no_string(self):
        for path, tree in parsed():
            told = [id(node.value) for node in ast.walk(tree) if isinstance(node, ast.Expr)]
            for node in ast.walk(tree):
                if isinstance(node, ast.Constant) and isinstance(node.value, str) and id(node) not in told:
                    self.assertNotIn(node.value, BARRED_WORDS, f"{path} {node.lineno}")

    def test_nested_functions_hide_nothing(self):
        for path, tree in parsed():
            known = [alias.name for node in tree.body if isinstance(node, ast.ImportFrom) for alias in node.names]
            known += [node.name for node in tree.body if isinstance(node, (ast.FunctionDef, ast.ClassDef))]
            for outer in functions_in(tree):
                for inner in functions_in(outer):
                    if inner is not outer:
                        self.assertNotIn(inner.name, known + dir(builtins), f"{path} {inner.lineno}")

    def test_no_import_is_idle(self):
        for path, tree in parsed():
            used = {node.id for node in ast.walk(tree) if isinstance(node, ast.Name)}
            for node in tree.body:
                if isinstance(node, ast.ImportFrom):
                    for alias in node.names:
                        self.assertIn(alias.name, used, path)


if __name__ == "__main__":
    unittest.main()
