"""The package's files keep to the part of Python that the program is written in."""

import pathlib
import unittest

from language_rules import PACKAGE, defined_names, drawn_from, faults, methods_and_values

FOLDER = pathlib.Path(__file__).resolve().parent.parent / PACKAGE

SENT_BACK = (
    ("L2", "from math import gcd\n"),
    ("L3", "def one():\n    return 1\n\n\none()\n"),
    ("L4", "def one(*parts):\n    return parts\n"),
    ("L5", "class One:\n    value = 1\n"),
    ("L6", "def one(x):\n    with x:\n        pass\n"),
    ("L6", "def one(x):\n    a = b = x\n    return a\n"),
    ("L6", "def one(x):\n    for a in x:\n        pass\n    else:\n        pass\n"),
    ("L6", "def one(x):\n    return x / 2\n"),
    ("L6", "def one(x):\n    return sum(a for a in x)\n"),
    ("L7", "def one(x):\n    return x * 0.5\n"),
    ("L8", "def one(x):\n    return pow(x, 2)\n"),
    ("L10", "def one(x):\n" + "    x += 1\n" * 40),
    ("L10", "# " + "a" * 119 + "\n"),
    ("L10", "# a\n" * 401),
    ("L12", "def one(_x):\n    return 1\n"),
    ("L14", "# \u00e9\n"),
    ("L15", "def one(hash):\n    return hash\n"),
    ("L15", "def one():\n    from crystalwords.a import b\n    return b\n"),
    ("L15", "from crystalwords.a import b\n\n\ndef one(b):\n    return b\n"),
    ("L15", "from crystalwords.a import b\n\n\ndef one(x):\n    return [b for b in x]\n"),
    ("L15", "class One:\n    pass\n\n\ndef one(x):\n    One = x\n    return One\n"),
    ("L15", "A = 1\nA = 2\n"),
    ("L15", "from crystalwords.a import b\n\n\ndef b(x):\n    return x\n"),
    ("L16", "from crystalwords.a import c\n"),
    ("L17", "# the type of it\n"),
    ("L20", "def one(x, y):\n    return x is y\n"),
    ("L21", "def one(x: int):\n    return x\n"),
    ("L23", "def one(x):\n    a = zip(x, x)\n    return list(a)\n"),
    ("L23", "def one(x):\n    return x.items()\n"),
    ("L25", "def one(x):\n    x.sort()\n    return x\n"),
    ("L27", "def one(x):\n    return '%'\n"),
    ("L27", "def one(x):\n    return 2 ** x\n"),
    ("L27", "def one(x):\n    return x ** 65\n"),
)


def texts():
    return {path.name: path.read_text(encoding="utf-8") for path in sorted(FOLDER.glob("*.py"))}


def module_of(file):
    stem = file[:-len(".py")]
    return PACKAGE if stem == "__init__" else f"{PACKAGE}.{stem}"


class Package(unittest.TestCase):
    def test_nothing_else_lies_in_it(self):
        lying = [path.name for path in FOLDER.iterdir() if path.name != "__pycache__"]
        self.assertEqual(sorted(lying), sorted(texts()))
        self.assertIn("__init__.py", lying)

    def test_every_file_keeps_to_the_rules(self):
        defined = {module_of(file): defined_names(text) for file, text in texts().items()}
        for file, text in texts().items():
            with self.subTest(file=file):
                self.assertEqual(list(faults(file, text, defined)), [])

    def test_no_two_files_draw_from_one_another(self):
        drawn = {module_of(file): drawn_from(text) for file, text in texts().items()}
        left = dict(drawn)
        while left:
            free = [module for module in left if not any(other in left for other in left[module])]
            self.assertTrue(free, f"these draw from one another: {sorted(left)}")
            for module in free:
                del left[module]

    def test_no_name_is_a_method_and_a_value(self):
        methods, values = [], []
        for text in texts().values():
            told = methods_and_values(text)
            methods.extend(told[0])
            values.extend(told[1])
        self.assertEqual(sorted(set(methods) & set(values)), [])
        self.assertTrue(methods and values)


class Rules(unittest.TestCase):
    def test_what_breaks_a_rule_is_seen(self):
        for rule, text in SENT_BACK:
            with self.subTest(rule=rule, text=text[:60]):
                found = [told for told, remark in faults("one.py", text, {"crystalwords.a": ["b"]})]
                self.assertIn(rule, found)

    def test_plain_code_is_let_through(self):
        text = '"""One."""\n\nfrom crystalwords.a import b\n\n\ndef one(x):\n    return [b(y) for y in x if y > 0]\n'
        self.assertEqual(list(faults("one.py", text, {"crystalwords.a": ["b"]})), [])


if __name__ == "__main__":
    unittest.main()
