import ast
import unittest
from pathlib import Path

PACKAGE = Path(__file__).resolve().parent.parent / "barredrows"
FILES = sorted(path for path in PACKAGE.iterdir() if path.name != "__pycache__")

# What the document's interface lists for each file: functions and classes with the names of their parameters.
INTERFACE = {
    "basics": {"is_integer": "value", "is_count": "value", "is_row": "value", "is_ahead": "one other"},
    "media": {
        "Medium": "many table", "Medium.free": "many", "Medium.barring": "many *words",
        "Medium.runs": "many **limits", "Medium.sums": "*steps low high", "Medium.many": "", "Medium.signs": "",
        "Medium.table": "", "Medium.after": "row state", "Medium.least_row": "state", "Medium.is_within": "other",
    },
    "drafts": {
        "Draft": "many", "Draft.put": "state sign to", "Draft.bar": "state sign", "Draft.width": "value",
        "Draft.set_width": "value", "Draft.made": "", "Draft.undo": "", "Draft.copy": "", "Trial": "draft",
        "tried_draft": "draft action",
    },
    "descriptions": {"describe": "medium", "read_medium": "description"},
    "counts": {
        "count": "medium length state", "row_at": "medium length number state", "number_of": "medium row state",
        "rows": "medium length state",
    },
    "ways": {"ways": "medium length", "ways_from": "medium length state", "parts": "medium length"},
    "parting": {"parting": "one other"},
    "memory": {"memory": "medium", "endless_rows": "medium", "is_endless": "medium value"},
    "papers": {
        "Rate": "p q", "Rate.read": "string", "Rate.p": "", "Rate.q": "", "Rate.size": "", "Paper.medium": "",
        "Paper.rate": "", "Paper.total": "", "Paper.numbers": "", "Paper.slack": "state",
        "Weights": "medium rate numbers", "Weights.says": "", "Loads": "medium rate numbers", "Loads.says": "",
    },
    "exact": {"paper": "medium rate", "has_weights": "medium rate", "too_few": "medium rate more"},
    "least": {
        "fall": "medium rate numbers", "fallings": "medium rate most", "greatest_weights": "medium rate most",
        "least_weight": "medium rate", "is_decline": "medium rate most value", "needs": "medium rate",
    },
    "rates": {"best": "medium length", "profile": "medium"},
    "coders": {
        "Coder": "rate codes lead", "Coder.rate": "", "Coder.lead": "", "Coder.codes": "", "Coder.end": "text state",
        "Coder.blocks": "text state", "Coder.spelled": "text", "Coder.__call__": "text", "misfit": "medium coder",
        "fits": "medium coder",
    },
    "sharing": {
        "Sharing": "weights shares", "Sharing.weights": "", "Sharing.shares": "", "Sharing.coder": "state",
        "Sharing.tail_length": "", "Sharing.tail": "state number", "Sharing.written": "text",
        "Sharing.read_back": "value", "shared": "weights",
    },
    "ahead": {
        "look_ahead": "coder", "is_enough": "coder ahead", "blind_texts": "coder ahead", "blind_ring": "coder",
        "is_blind_ring": "coder value",
    },
    "pieces": {
        "Pieces.of": "weights", "Pieces.medium": "", "Pieces.rate": "", "Pieces.is_even": "", "Pieces.numbers": "",
        "Pieces.states": "", "Pieces.entries": "piece", "Pieces.split_at": "piece chosen", "Pieces.choice": "",
        "Pieces.evened": "", "Pieces.coder": "piece",
    },
    "readers": {
        "closed": "coder text", "read_closed": "coder value", "Reader": "coder", "Reader.__call__": "block",
        "Reader.source": "", "Reader.pending": "", "Reader.words": "", "Reader.copy": "",
        "tried_reader": "reader action",
    },
    "windows": {
        "has_window": "coder behind ahead", "window": "coder", "endless_runs": "coder",
        "is_endless_runs": "coder value",
    },
    "damage": {
        "WindowReader": "coder", "WindowReader.source": "", "WindowReader.behind": "", "WindowReader.ahead": "",
        "WindowReader.spread": "", "WindowReader.__call__": "blocks", "damaged": "blocks place sign",
        "spoiled": "coder text place sign",
    },
    "judging": {
        "loses_nothing": "coder", "clash": "coder", "is_clash": "coder value", "still_open": "coder row",
        "derived": "medium coder",
    },
    "alike": {"parting_text": "one other", "write_same": "one other", "merged": "coder"},
    "marks": {"clear_rows": "medium mark", "join": "medium mark row"},
    "bits": {"packed": "rate bits", "unpacked": "rate text"},
    "judge": {"is_claim": "value", "certificate_of": "claim", "is_certificate": "claim value"},
    "desk": {
        "Desk": "", "Desk.do": "command", "Desk.do_all": "*commands", "Desk.undo": "", "Desk.put": "name thing",
        "Desk.named": "name", "Desk.names": "", "Desk.log": "", "Desk.tried": "action",
    },
}
OPERATORS = {
    "media": {"Medium": ["__len__", "__contains__", "__and__", "__rshift__", "__eq__", "__repr__"]},
    "drafts": {
        "Draft": ["__getitem__", "__setitem__", "__ior__", "__len__", "__contains__"],
        "Trial": ["__enter__", "__exit__"],
    },
    "papers": {
        "Rate": ["__mul__", "__rmul__", "__eq__", "__str__", "__repr__"],
        "Paper": ["__getitem__", "__len__", "__add__", "__mul__", "__eq__"],
        "Weights": ["__or__", "__repr__"],
        "Loads": ["__and__", "__repr__"],
    },
    "coders": {"Coder": ["__len__", "__getitem__", "__call__", "__eq__", "__repr__"]},
    "sharing": {"Sharing": ["__eq__"]},
    "pieces": {"Pieces": ["__len__", "__eq__"]},
    "readers": {"Reader": ["__call__", "__enter__", "__exit__"]},
    "damage": {"WindowReader": ["__call__"]},
    "desk": {"Desk": ["__setitem__", "__len__", "__contains__"]},
}


def parameters(function):
    told = function.args
    names = [name.arg for name in told.args if name.arg not in ("self", "cls")]
    names += [f"*{told.vararg.arg}"] if told.vararg else []
    names += [name.arg for name in told.kwonlyargs]
    names += [f"**{told.kwarg.arg}"] if told.kwarg else []
    return " ".join(names)


def defined(path):
    """The parameters of all functions, methods and classes of a file."""
    found = {}
    for part in ast.parse(path.read_text()).body:
        if isinstance(part, ast.FunctionDef):
            found[part.name] = parameters(part)
        elif isinstance(part, ast.ClassDef):
            found[part.name] = ""
            for method in part.body:
                if isinstance(method, ast.FunctionDef):
                    name = part.name if method.name == "__init__" else f"{part.name}.{method.name}"
                    found[name] = parameters(method)
    return found


class Interface(unittest.TestCase):
    def test_defined_where_it_is_listed(self):
        for name, listed in INTERFACE.items():
            found = defined(PACKAGE / f"{name}.py")
            self.assertEqual({key: found.get(key) for key in listed}, listed)

    def test_operators(self):
        for name, classes in OPERATORS.items():
            found = defined(PACKAGE / f"{name}.py")
            for part, methods in classes.items():
                for method in methods:
                    self.assertIn(f"{part}.{method}", found)


class Form(unittest.TestCase):
    def test_files(self):
        self.assertTrue(all(path.suffix == ".py" and path.is_file() for path in FILES))
        self.assertIn("__init__.py", [path.name for path in FILES])

    def test_characters_and_sizes(self):
        for path in FILES:
            text = path.read_text()
            lines = text.splitlines()
            self.assertLessEqual(len(lines), 399, path.name)
            self.assertLessEqual(max([len(line) for line in lines]), 120, path.name)
            self.assertEqual([sign for sign in text if sign != "\n" and not " " <= sign <= "~"], [], path.name)

    def test_functions_are_small(self):
        for path in FILES:
            for part in ast.walk(ast.parse(path.read_text())):
                if isinstance(part, ast.FunctionDef):
                    self.assertLessEqual(part.end_lineno - part.lineno + 1, 40, (path.name, part.name))

    def test_imports(self):
        for path in FILES:
            for part in ast.walk(ast.parse(path.read_text())):
                self.assertNotIsInstance(part, ast.Import)
                if isinstance(part, ast.ImportFrom) and part.module != "math":
                    self.assertRegex(part.module, "^barredrows[.][a-z]+$")
                    names = defined(PACKAGE / f"{part.module.split('.')[1]}.py")
                    own = [name for name in [item.name for item in part.names] if not name.isupper()]
                    self.assertEqual([name for name in own if name not in names], [], path.name)

    def test_barred_parts(self):
        barred = (ast.Global, ast.AsyncFunctionDef, ast.Await, ast.Div, ast.Pow, ast.GeneratorExp)
        for path in FILES:
            for part in ast.walk(ast.parse(path.read_text())):
                self.assertNotIsInstance(part, barred, path.name)
                if isinstance(part, ast.Constant):
                    self.assertNotIsInstance(part.value, float)
                    self.assertFalse(isinstance(part.value, str) and "\x25" in part.value)
