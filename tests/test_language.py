import pathlib
import unittest

from tests.language_check import complaints

FOLDER = pathlib.Path(__file__).resolve().parent.parent / "oftenenough"

# A file that breaks a rule, and the rule.
BROKEN = (
    ("L2", "import math\n"),
    ("L2", "from .errors import BadDay\n"),
    ("L2", "from os.path import join\n"),
    ("L2", "from math import sqrt\n"),
    ("L2", "from math import gcd as shared\n"),
    ("L2", "from oftenenough.errors import *\n"),
    ("L2", "LEAST = 1\nfrom math import gcd\n"),
    ("L3", "LEAST = MOST = 1\n"),
    ("L3", "LEAST, MOST = 1, 2\n"),
    ("L3", "MANY = len('ab')\n"),
    ("L3", "for number in (1, 2):\n    pass\n"),
    ("L3", "print(1)\n"),
    ("L4", "@staticmethod\ndef one():\n    return 1\n"),
    ("L4", "def one():\n    def two():\n        return 2\n    return two()\n"),
    ("L5", "class Box:\n    many = 1\n"),
    ("L5", "class Box:\n    def __hash__(self):\n        return 1\n"),
    ("L6", "def one():\n    global many\n    many = 1\n"),
    ("L6", "def one(many):\n    many\n"),
    ("L6", "async def one():\n    return 1\n"),
    ("L6", "def one():\n    try:\n        return 1\n    except:\n        return 2\n"),
    ("L7", "def half(many):\n    return many / 2\n"),
    ("L7", "def half():\n    return 0.5\n"),
    ("L7", "def one(many):\n    return all(left for left in many)\n"),
    ("L8", "def one(many):\n    return hash(many)\n"),
    ("L8", "def one():\n    return unknown\n"),
    ("L8", "def one(many):\n    print(many)\n"),
    ("L8", "def one(many):\n    return sorted(many, key=len)\n"),
    ("L10", "def one():\n" + "    pass\n" * 40),
    ("L10", "LEAST = 1\n" + "\n" * 399),
    ("L10", "LEAST = 1  # " + "x" * 108 + "\n"),
    ("L12", "def __one():\n    return 1\n"),
    ("L12", "def one(pair):\n    left, _ = pair\n    return _\n"),
    ("L14", "LEAST = 1  # caf\u00e9\n"),
    ("L14", "def one():\n\treturn 1\n"),
    ("L15", "LEAST = 1\nLEAST = 2\n"),
    ("L15", "def one(sum):\n    return 1\n"),
    ("L15", "def one(hash):\n    return 1\n"),
    ("L15", "from math import gcd\n\n\ndef one(gcd):\n    return 1\n"),
    ("L16", "from oftenenough.errors import Unknown\n"),
    ("L16", "from oftenenough.broken import one\n\n\ndef one():\n    return 1\n"),
    ("L17", "def one(input):\n    return 1\n"),
    ("L17", "def one(elements):\n    return 1\n"),
    ("L17", "NAME = 'an enum'\n"),
    ("L18", "class Box(Unknown):\n    pass\n"),
    ("L18", "class Box:\n    def one(self):\n        pass\n\n    def one(self):\n        pass\n"),
    ("L18", "def one(box):\n    return box.many\n"),
    ("L19", "def one(why):\n    raise why\n"),
    ("L19", "def one():\n    raise ValueError\n"),
    ("L20", "def one(many):\n    return many is 'a'\n"),
    ("L20", "def one(many, left):\n    return many is left\n"),
    ("L21", "def one(many: int):\n    return 1\n"),
    ("L22", "def one(many):\n    return isinstance(many, object)\n"),
    ("L22", "def one(many):\n    return int(many, base=2)\n"),
    ("L22", "def one(many):\n    return one(**many)\n"),
    ("L23", "def one(many):\n    pairs = zip(many, many)\n    return list(pairs)\n"),
    ("L23", "def one(many):\n    return many.items()\n"),
    ("L23", "def one(many):\n    for left in many:\n        many.append(left)\n"),
    ("L23", "def one(many):\n    for at, left in enumerate(many):\n        many[at] = left + 1\n"),
    ("L25", "def one(many):\n    return many.format()\n"),
    ("L25", "def one(many):\n    many.sort()\n"),
    ("L26", "class Box:\n    def __init__(self):\n        self.args = 1\n"),
    ("L26", "class Box:\n    def append(self):\n        pass\n"),
    ("L27", "def one(many):\n    return 2 ** many\n"),
    ("L27", "NAME = '%'\n"),
    ("L27", "NAME = 'a\\x41'\n"),
    ("L27", "NAME = '__name__'\n"),
    ("L27", "def one(many):\n    return 1if many else 2\n"),
    ("L28", "class Box:\n    def __init__(self):\n        return None\n"),
    ("L7", "def one(many):\n    return len(set(many)) + len({1, 2})\n"),
    ("L7", "def one(many):\n    return f'{many}'\n"),
    ("L3", "TABLE = {'a': one}\n\n\ndef one():\n    return 1\n"),
    ("L4", "def one(many):\n    return sorted(many, key=lambda left, right: 1)\n"),
    ("L4", "def one(many):\n    return lambda left: left\n"),
    ("L5", "def one(many):\n    return sorted(many, key=lambda left: left.pop())\n"),
    ("L5", "class Box:\n    @property\n    def many(self):\n        return self.told()\n"),
    ("L5", "class Box:\n    @property\n    def many(self):\n        self.left = 1\n        return 1\n"),
    ("L5", "class Box:\n    @property\n    def many(self, left):\n        return left\n"),
    ("L5", "class Box:\n    @property\n    def items(self):\n        return 1\n"),
    ("L5", "class Box:\n    @property\n    def many(self):\n        return 1\n\n\nclass Bag:\n    def many(self):\n        pass\n"),
    ("L26", "class Box:\n    @property\n    def many(self):\n        return 1\n\n    def told(self):\n        self.many = 1\n"),
    ("L4", "class Box:\n    @staticmethod\n    def many(left):\n        return left\n"),
    ("L25", "class Box:\n    @property\n    def many(self):\n        return 1\n\n    def told(self):\n        return self.many()\n"),
    ("L28", "class Box:\n    def __len__(self):\n        return 1 + len('a')\n"),
    ("L28", "class Box:\n    def __eq__(self, other):\n        return self.many == other.many\n"),
    ("L28", "class Box:\n    def __eq__(self, other):\n        return isinstance(other, Box) and self.a() == other.a()\n"),
    ("L28", "class Box:\n    def __eq__(self, other):\n        return isinstance(other, Box) or self.a == other.a\n"),
    ("L6", "class Box:\n    def __exit__(self, kind, value, trace):\n        self.told()\n"),
    ("L6", "class Box:\n    def __exit__(self, kind, value, trace):\n        self.left = value\n"),
    ("L6", "class Box:\n    def __exit__(self, kind):\n        self.left = 1\n"),
    ("L6", "def one(many):\n    with many[0] as left:\n        return left\n"),
    ("L6", "def one(many):\n    with many as left, many as right:\n        return left\n"),
    ("L6", "def one(many):\n    with many as (left, right):\n        return left\n"),
    ("L6", "def one():\n    try:\n        return 1\n    finally:\n        pass\n"),
    ("L19", "def one():\n    try:\n        return 1\n    except ValueError:\n        return 2\n"),
    ("L19", "from oftenenough.errors import BadDay\n\n\ndef one():\n    try:\n        return 1\n"
            "    except (BadDay, KeyError):\n        return 2\n"),
    ("L22", "def one(many):\n    return min(many, many, default=1)\n"),
    ("L5", "class Box:\n    def __iter__(self):\n        return iter(self.many)\n"),
)


class Package(unittest.TestCase):
    def test_the_folder_contains_nothing_but_python_files(self):
        # Python itself may lay its cache there while a test runs; that is no part of the project.
        names = [path.name for path in FOLDER.iterdir() if path.name != "__pycache__"]
        self.assertIn("__init__.py", names)
        for name in names:
            self.assertRegex(name, r"\A[a-z_][a-z0-9_]*\.py\Z")
            self.assertTrue((FOLDER / name).is_file(), name)

    def test_every_file_keeps_to_the_language(self):
        files = {path.name: path.read_text(encoding="utf-8") for path in FOLDER.glob("*.py")}
        self.assertTrue(files)
        self.assertEqual(complaints(files), [])


class TheCheckItself(unittest.TestCase):
    def test_each_broken_rule_is_found(self):
        errors = (FOLDER / "errors.py").read_text(encoding="utf-8")
        for rule, text in BROKEN:
            with self.subTest(rule=rule, text=text):
                told = complaints({"errors.py": errors, "broken.py": text})
                self.assertIn(rule, [found[0] for found in told])
                self.assertEqual({found[1] for found in told}, {"broken.py"})

    def test_files_that_import_from_each_other_are_found(self):
        one = "from oftenenough.two import second\n\n\ndef first():\n    return second()\n"
        two = "from oftenenough.one import first\n\n\ndef second():\n    return first()\n"
        self.assertEqual({found[:2] for found in complaints({"one.py": one, "two.py": two})},
                         {("L16", "one.py"), ("L16", "two.py")})

    def test_wrong_file_names_are_found(self):
        for name in ("Rows.py", "test_rows.py", "rows.txt", "site.py"):
            self.assertEqual([found[0] for found in complaints({name: "LEAST = 1\n"})], ["L14"])
