"""The look over the language finds what it should find, and nothing in the package."""

import importlib.util
import pathlib
import subprocess
import sys
import tempfile
import unittest

ROOT = pathlib.Path(__file__).resolve().parent.parent
SCRIPT = ROOT / ".ci" / "language.py"


def loaded():
    spec = importlib.util.spec_from_file_location("language", SCRIPT)
    module = importlib.util.module_from_spec(spec)
    spec.loader.exec_module(module)
    return module


LANGUAGE = loaded()

RIGHT = '''"""A file."""

from pack.other import led_to

MANY = 8


class Box:
    def __init__(self, many):
        self.many = many
        self.count = 0

    def add(self, more):
        self.many += more


def sums(xs):
    """Some sums."""
    seen = {x for x in xs}
    first, *rest = xs
    rows = [(at, x) for at, x in enumerate(rest) if x is not None]
    if first in seen and Box(MANY).many in list(range(9)):
        rows.append(led_to(first))
    return sorted(set(xs) | set(rest)), {x: 2 ** 3 for x in rows}, len({x for x in xs})
'''

WRONG = {
    "L2": ("from os.path import join", "from pack.none import led_to", "def f():\n    from pack.other import led_to"),
    "L3": ("print(1)", "if True:\n    A = 1", "A = [x for x in (1, 2)]", "A = len('ab')"),
    "L4": ("def f(*xs):\n    pass", "def f(**xs):\n    pass", "def f(a, /):\n    pass", "@f\ndef f():\n    pass"),
    "L5": ("class A:\n    many = 1",),
    "L6": (
        "def f(x):\n    with x:\n        pass", "def f(x):\n    yield x", "def f(x):\n    global y",
        "def f(xs):\n    for x in xs:\n        pass\n    else:\n        pass",
    ),
    "L7": (
        "A = 1.5", "def f(x):\n    return x / 2", "def f(xs):\n    return any(x for x in xs)",
        "def f(xs):\n    return [*xs]", "def f(x):\n    return (y := x)",
    ),
    "L8": ("def f(x):\n    return hash(x)", "def f(x):\n    return map(f, x)", "def f():\n    return unheard_of"),
    "L10": (
        "A = 1  # " + "x" * 112, "def f(x):\n" + "    x += 1\n" * 40, "# more\n" * 401,
    ),
    "L12": ("def _f():\n    pass", "def f(_):\n    pass", "_A = 1"),
    "L14": ("A = '\u00e4'", "A = 1\t"),
    "L15": (
        "A = 1\nA = 2", "def f(max):\n    return max", "A = [[1]]", "A = {1: {}}", "def f():\n    class A:\n        pass",
        "from pack.other import led_to\n\n\ndef f(led_to):\n    return led_to",
        "from pack.other import led_to\n\n\ndef f(xs):\n    for led_to in xs:\n        f(led_to)",
        "class A:\n    pass\n\n\ndef f(xs):\n    A = xs\n    return A",
    ),
    "L16": ("import os", "from pack.other import unheard_of"),
    "L17": ("# a type of box", "def f(id):\n    pass", "A = 'an enum'"),
    "L18": (
        "class A:\n    def many(self):\n        pass\n\n\nclass B:\n    def __init__(self):\n        self.many = 1",
    ),
    "L19": ("def f(x):\n    try:\n        x()\n    except Exception:\n        pass",),
    "L20": ("def f(x, y):\n    return x is y",),
    "L23": ("def f(x):\n    y = zip(x, x)\n    return y", "def f(x):\n    return x.items()"),
    "L24": ("def f(x):\n    return set(x)", "def f(x):\n    return [y for y in {1, x}]", "def f(x):\n    g({1: {x}})"),
    "L25": ("def f(x):\n    return x.popitem()", "def f(x):\n    return x.union(x)"),
    "L26": (
        "class A:\n    def decode(self):\n        pass", "class A:\n    def union(self):\n        pass",
        "def f(x):\n    x.items = 1", "def f(x):\n    x.real += 1", "def f(x):\n    x.args = 1",
    ),
    "L27": ("A = '%'", "def f(x):\n    return 2 ** x"),
}

OTHER = "def led_to(x):\n    return x\n"


class Language(unittest.TestCase):
    def test_a_right_file(self):
        self.assertEqual(LANGUAGE.look_over({"right": RIGHT, "other": OTHER}, "pack"), [])

    def test_wrong_files(self):
        for rule, texts in WRONG.items():
            for text in texts:
                rows = LANGUAGE.look_over({"wrong": text + "\n", "other": OTHER}, "pack")
                self.assertTrue(any(f": {rule} " in row for row in rows), (rule, text, rows))

    def test_files_that_draw_from_one_another(self):
        texts = {"a": "from pack.b import g\n\n\ndef f():\n    g()\n", "b": "from pack.a import f\n\n\ndef g():\n    f()\n"}
        self.assertEqual([row.split()[1] for row in LANGUAGE.look_over(texts, "pack")], ["L16", "L16"])

    def run_on(self, folder):
        return subprocess.run([sys.executable, str(SCRIPT), str(folder)], capture_output=True, text=True)

    def test_the_package_keeps_to_it(self):
        told = self.run_on(ROOT / "fewsaves")
        self.assertEqual((told.returncode, told.stderr), (0, ""), told.stdout)

    def test_it_fails_for_a_fault_and_for_other_files(self):
        for name, text in (("wrong.py", "A = 1.5\n"), ("notes.txt", "notes\n"), ("Big.py", "A = 1\n")):
            with tempfile.TemporaryDirectory() as folder:
                (pathlib.Path(folder) / "__init__.py").write_text("")
                self.assertEqual(self.run_on(folder).returncode, 0)
                (pathlib.Path(folder) / name).write_text(text)
                self.assertEqual(self.run_on(folder).returncode, 1, name)


if __name__ == "__main__":
    unittest.main()
