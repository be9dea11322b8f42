"""What can be seen of the form of the package: its files, sizes, imports, and where its names are defined."""

import ast
import pathlib
import re
import unittest

ROOT = pathlib.Path(__file__).resolve().parent.parent
PACKAGE = ROOT / "staletags"

# The interface.
INTERFACE = {
    "errors.py": [
        "TagError", "NoRoom", "NoNumber", "NoTags", "NoDeed", "TooFew", "NotFew", "NoSlip", "NotRight", "NotFree",
        "Full", "NoGiving", "NoNear", "NoPast", "NoText", "NoHands", "NoWay", "BadWeb(part)", "NoRow(index)",
        "TooMany(most)", "BadFoe(index)", "NotKept(word)", "BadProgram(place)", "BadText(line)", "NoWeaving(place)",
    ],
    "webs.py": [
        "Web(memories, ties)", "tied(web, room)", "row_web(many, memory)", "ring_web(many, memory)",
        "grid_web(wide, high, memory)", "sided_web(sizes, memory)", "two_lots(web)", "odd_ring(web)",
        "is_odd_ring(web, thing)",
    ],
    "standings.py": [
        "begun(web)", "after(web, standing, deed)", "standing_of(web, past)", "barred(web, standing, room)",
        "is_past(web, k, thing)", "first_barred(web, past)",
    ],
    "keepers.py": ["is_row(web, thing)", "led(keeper, web, k, row)", "steadily(steady)", "by_table(table)"],
    "walks.py": ["walked(steady, web, k)", "is_table(web, k, thing)"],
    "counts.py": [
        "needs(web, room)", "least_needed(web)", "least_enough(web)", "sided_number(sizes, memory)",
        "most_givings(web)", "ring_dyed(half, memory)",
    ],
    "told.py": ["told_keeper(web, k)", "sided_keeper(sizes, memory, k)"],
    "foes.py": ["met(keeper, foe, web, k, most)", "told_foe(web, k)", "sided_foe(sizes, memory, k)"],
    "settling.py": ["settled(web, k)", "is_plan(web, k, thing)", "least_tags(web, most)"],
    "dyes.py": [
        "blindly(unseeing)", "is_dyeing(web, k, thing)", "dyeing(web, k)", "least_dyed(web, most)", "in_turn(dyeing)",
        "blind_row(unseeing, web, k, many)",
    ],
    "passing.py": ["passing(steady, web, k, slip)"],
    "looks.py": ["slip_of(web, past, giving, room)"],
    "heap.py": ["Heap(web, k, keeper, size)"],
    "hands.py": ["Program(block)"],
    "runs.py": [
        "plain(program, web, size, most)", "tagged(program, web, k, keeper, size, most)",
        "found_always(program, web, size, most)",
    ],
    "journals.py": ["recovered(web, k, keeper, size, text)"],
    "ties.py": ["clashes(web, standing)", "anew(web, standing)", "given_anew(web, k, standing)"],
    "texts.py": ["web_text(web)", "program_text(program)", "read_web(text)", "read_program(text)"],
    "weaves.py": [
        "woven(hands, web, size, weaving)", "woven_tagged(hands, web, k, keeper, size, weaving)",
        "whole_weavings(hands, web, size)", "outcomes(hands, web, size)", "least_slip(hands, web, size)",
        "least_open(hands, web, size)", "passing_weaving(hands, web, k, steady, size)",
    ],
    "chances.py": ["chances(program, web, k, way, size, most)", "let_chance(program, web, k, way, size, most)"],
}

HEAP_METHODS = [
    "give(room)", "take()", "back(giving)", "read(giving, room, cell)", "write(giving, room, cell, number)", "past()",
    "cells(room)", "standing()", "handles()", "slips()", "looks()", "journal()", "copy()",
]

# The names of Python's library that may be imported.
LIBRARY = [("math", "gcd"), ("itertools", "combinations")]

BARRED_WORDS = [
    "type", "typing", "enum", "Enum", "Flag", "Generic", "Protocol", "ABC", "namedtuple", "global", "async", "eval",
    "exec", "open", "input", "float", "lambda_", "__hash__", "_wall",
]


def sources():
    return {path.name: path.read_text("utf-8") for path in sorted(PACKAGE.glob("*.py"))}


def functions(tree):
    return [node for node in ast.walk(tree) if isinstance(node, ast.FunctionDef)]


def signature(node):
    """The name and arguments of a function or a class, as the interface writes them."""
    if isinstance(node, ast.FunctionDef):
        return node.name, [arg.arg for arg in node.args.args]
    inits = [part for part in node.body if isinstance(part, ast.FunctionDef) and part.name == "__init__"]
    return node.name, [arg.arg for arg in inits[0].args.args[1:]] if inits else []


class FormTest(unittest.TestCase):
    def test_only_plain_files(self):
        for path in PACKAGE.iterdir():
            if path.name != "__pycache__":
                self.assertRegex(path.name, r"^[a-z0-9_]+\.py$")

    def test_sizes_and_signs(self):
        for name, text in sources().items():
            with self.subTest(name):
                lines = text.split("\n")
                self.assertLessEqual(len(lines), 399)
                self.assertLessEqual(max(len(line) for line in lines), 120)
                self.assertIsNone(re.search(r"[^\n -~]", text))
                for node in functions(ast.parse(text)):
                    self.assertLessEqual(node.end_lineno - node.lineno + 1, 40, node.name)

    def test_imports_come_from_the_package(self):
        for name, text in sources().items():
            for node in ast.walk(ast.parse(text)):
                self.assertNotIsInstance(node, ast.Import, name)
                if isinstance(node, ast.ImportFrom) and not node.module.startswith("staletags"):
                    for alias in node.names:
                        self.assertIn((node.module, alias.name), LIBRARY)
                        self.assertIsNone(alias.asname)
                elif isinstance(node, ast.ImportFrom):
                    self.assertRegex(node.module, r"^staletags\.[a-z]+$")
                    self.assertEqual(node.level, 0)
                    defined = ast.parse(sources()[node.module.split(".")[1] + ".py"]).body
                    names = [part.name for part in defined if hasattr(part, "name")]
                    names += [part.targets[0].id for part in defined if isinstance(part, ast.Assign)]
                    for alias in node.names:
                        self.assertIn(alias.name, names)

    def test_barred_words_and_kinds_of_statements(self):
        wrong = (ast.Global, ast.AsyncFunctionDef, ast.Div, ast.Await, ast.Yield, ast.GeneratorExp, ast.Try)
        for name, text in sources().items():
            for node in ast.walk(ast.parse(text)):
                self.assertNotIsInstance(node, wrong, name)
                if isinstance(node, ast.Constant):
                    self.assertNotIsInstance(node.value, (float, complex))
                names = [getattr(node, "id", None), getattr(node, "attr", None), getattr(node, "name", None)]
                for word in BARRED_WORDS:
                    self.assertNotIn(word, names, name)

    def test_interface_is_defined_where_it_is_listed(self):
        for name, wanted in INTERFACE.items():
            tree = ast.parse(sources()[name])
            nodes = [node for node in tree.body if isinstance(node, (ast.FunctionDef, ast.ClassDef))]
            found = dict(signature(node) for node in nodes)
            for item in wanted:
                word, _, rest = item.partition("(")
                args = [arg for arg in rest.rstrip(")").split(", ") if arg]
                self.assertEqual(found.get(word), args, item)

    def test_methods_of_the_heap_stand_in_its_class(self):
        tree = ast.parse(sources()["heap.py"])
        heap = [node for node in tree.body if isinstance(node, ast.ClassDef) and node.name == "Heap"][0]
        found = dict(signature(node) for node in heap.body if isinstance(node, ast.FunctionDef))
        for item in HEAP_METHODS:
            word, _, rest = item.partition("(")
            args = [arg for arg in rest.rstrip(")").split(", ") if arg]
            self.assertEqual(found.get(word), ["self"] + args, item)


if __name__ == "__main__":
    unittest.main()
