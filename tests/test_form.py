import pathlib
import re
import unittest

from form import Package

FOLDER = pathlib.Path(__file__).resolve().parent.parent / "oathfall"

# Code that breaks a rule, and the rule's number.
BROKEN = (
    ("import sys", "L6"),
    ("from sys import argv", "L2"),
    ("from oathfall import other", "L2"),
    ("from .other import thing", "L2"),
    ("from oathfall.other import *", "L2"),
    ("from oathfall.other import missing", "L16"),
    ("len([])", "L3"),
    ("X = len([])", "L3"),
    ("X = 1\nX = 2", "L15"),
    ("X = [[1], [2]]", "L15"),
    ("def f(*xs):\n    return xs", "L4"),
    ("def f(**xs):\n    return xs", "L4"),
    ("def f(*, x):\n    return x", "L4"),
    ("@f\ndef g():\n    return 1", "L4"),
    ("class A:\n    x = 1", "L5"),
    ("class A(dict):\n    pass", "L5"),
    ("class A(AttributeError):\n    pass", "L18"),
    ("class A:\n    def f(self):\n        pass\n    def f(self):\n        pass", "L18"),
    ("class A:\n    def f(self):\n        self.f = 1", "L18"),
    ("class A:\n    pass\ndef f():\n    return [A]", "L18"),
    ("def f():\n    class A:\n        pass", "L15"),
    ("def f(x):\n    del x", "L6"),
    ("def f(x):\n    assert x", "L6"),
    ("def f(x):\n    a = b = x", "L6"),
    ("def f(xs):\n    for x in xs:\n        pass\n    else:\n        pass", "L6"),
    ("def f():\n    \"\"\"words\"\"\"", "L6"),
    ("def f():\n    yield 1", "L7"),
    ("def f(x):\n    return x / 2", "L7"),
    ("def f():\n    return 1.5", "L7"),
    ("def f(xs):\n    return [x for x in xs for y in xs]", "L7"),
    ("def f(xs):\n    return {x: 1 for x in xs}", "L7"),
    ("def f(xs):\n    return sum(x for x in xs)", "L7"),
    ("def f(xs):\n    return max(*xs)", "L7"),
    ("def f(x):\n    return f'{x + 1}'", "L7"),
    ("def f(x):\n    return chr(x)", "L8"),
    ("def f(x):\n    print(x)", "L8"),
    ("def f():\n" + "    pass\n" * 40, "L10"),
    ("X = 1\n" * 401, "L10"),
    ("X = '" + "a" * 120 + "'", "L10"),
    ("def f():\n\treturn 1", "L10"),
    ("def f_():\n    _x = 1\n    return _x", "L12"),
    ("X = '\u00e9'", "L14"),
    ("def f(id):\n    return id", "L15"),
    ("class A:\n    pass\ndef f(A):\n    return 1", "L15"),
    ("def help():\n    return 1", "L17"),
    ("# of this type", "L17"),
    ("X = 'Enum'", "L17"),
    ("def f(x):\n    return x.format()", "L17"),
    ("def f():\n    try:\n        return 1\n    except:\n        return 2", "L19"),
    ("def f():\n    try:\n        return 1\n    except Exception:\n        return 2", "L19"),
    ("def f():\n    raise ValueError", "L19"),
    ("def f(x, y):\n    return x is y", "L20"),
    ("def f(x: int):\n    return x", "L21"),
    ("def f(x):\n    y: int = x\n    return y", "L21"),
    ("def f(x):\n    return int(x, base=3)", "L22"),
    ("def f(n):\n    x = range(n)\n    return x", "L23"),
    ("def f(d):\n    x = d.items()\n    return x", "L23"),
    ("def f(xs):\n    for x in xs:\n        xs.append(x)", "L23"),
    ("def f(xs):\n    x = set(xs)\n    return x", "L24"),
    ("def f():\n    return {1, 2}", "L24"),
    ("def f(xs):\n    return xs.sort()", "L25"),
    ("def f(x):\n    return x.title()", "L25"),
    ("class A:\n    def __init__(self):\n        self.items = 1", "L26"),
    ("class A:\n    def encode(self):\n        return 1", "L26"),
    ("def f(n):\n    return 2 ** n", "L27"),
    ("X = '50%'", "L27"),
    ("X = '\\x41'", "L27"),
    ("class A:\n    def __init__(self):\n        return None", "L28"),
    ("class A:\n    def __hash__(self):\n        return 1", "L12"),
)


def rules_broken(text, name="sample"):
    files = {"__init__": '"""Words."""\n', "other": "def thing():\n    return 1\n", name: text}
    return {rule for rule, file, line in Package(files).check()}


class TheForm(unittest.TestCase):
    def test_the_package_keeps_to_every_rule_seen_here(self):
        files = {path.stem: path.read_text(encoding="utf-8") for path in FOLDER.glob("*.py")}
        self.assertIn("__init__", files)
        self.assertEqual(Package(files).check(), [])

    def test_nothing_else_lies_in_the_package(self):
        for path in FOLDER.iterdir():
            if path.name != "__pycache__":
                self.assertTrue(re.fullmatch(r"\w+\.py", path.name, re.ASCII), path.name)

    def test_files_end_their_rows_with_a_line_feed(self):
        for path in FOLDER.glob("*.py"):
            self.assertNotIn(b"\r", path.read_bytes())


class TheRules(unittest.TestCase):
    def test_code_that_breaks_a_rule_is_found(self):
        for text, rule in BROKEN:
            self.assertIn(rule, rules_broken(text), text)

    def test_files_that_draw_from_one_another(self):
        files = {
            "one": "from oathfall.two import f\n\n\ndef g():\n    return f()\n",
            "two": "from oathfall.three import h\n\n\ndef f():\n    return h()\n",
            "three": "def h():\n    return 1\n",
        }
        self.assertEqual(Package(files).check(), [])
        files["three"] = "from oathfall.one import g\n\n\ndef h():\n    return g()\n"
        self.assertEqual(Package(files).check(), [("L16", name, 0) for name in ("one", "two", "three")])

    def test_a_file_name_that_is_none(self):
        for name in ("Sample", "tests", "test_it", "filter", "len"):
            self.assertIn("L14", rules_broken("X = 1\n", name))

    def test_plain_code_is_let_by(self):
        plain = (
            '"""Words."""\n\nfrom oathfall.other import thing\n\nNAMES = ("a", "b")\nTABLE = {"a": (1, 2)}\n\n\n'
            "class A(ValueError):\n    def __init__(self, number):\n        ValueError.__init__(self, f\"{number}\")\n"
            "        self.number = number\n\n\n"
            "def f(xs, most=3):\n    for k, x in enumerate(xs):\n        if x is None:\n            raise A(k)\n"
            "    return sorted(set(xs)) + [thing() for x in xs if x in TABLE]\n"
        )
        self.assertEqual(rules_broken(plain), set())


if __name__ == "__main__":
    unittest.main()
