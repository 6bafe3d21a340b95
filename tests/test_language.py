import os
import unittest

from language import file_faults, package_faults

PACKAGE = os.path.join(os.path.dirname(os.path.dirname(os.path.abspath(__file__))), "pactroom")


def package_sources():
    sources = {}
    for name in sorted(os.listdir(PACKAGE)):
        if name != "__pycache__":
            with open(os.path.join(PACKAGE, name), encoding="utf-8", newline="") as file:
                sources[name] = file.read()
    return sources


class PackageTest(unittest.TestCase):
    def test_each_file(self):
        sources = package_sources()
        self.assertIn("__init__.py", sources)
        for name, source in sources.items():
            self.assertEqual(file_faults(name, source), [], name)

    def test_all_files_together(self):
        self.assertEqual(package_faults(package_sources()), [])


class CheckTest(unittest.TestCase):
    """The check itself: what it lets pass, and one wrong piece for each rule that it looks at."""

    def test_a_plain_file_passes(self):
        source = '"""Words."""\n\nMOST = 3\n\n\ndef least(parts):\n    return [part for part in parts if part < MOST]\n'
        self.assertEqual(file_faults("plain.py", source), [])

    def test_wrong_pieces(self):
        wrong = [
            ("L3", "import re\n"), ("L2", "from .errors import NoThing\n"), ("L2", "from pactroom.errors import *\n"),
            ("L3", "print(3)\n"), ("L4", "def f(*parts):\n    return parts\n"), ("L5", "class A:\n    most = 3\n"),
            ("L6", "def f():\n    a = b = 3\n"), ("L6", "def f(p):\n    a, b = p\n"), ("L6", "def f():\n    assert 3\n"),
            ("L6", "def f(p):\n    for a in p:\n        pass\n    else:\n        pass\n"),
            ("L6", "def f():\n    try:\n        f()\n    finally:\n        f()\n"),
            ("L7", "def f(p):\n    return p / 2\n"), ("L7", "HALF = 0.5\n"), ("L7", "def f(p):\n    return {a for a in p}\n"),
            ("L7", "def f(p):\n    return [a for b in p for a in b]\n"), ("L8", "def f(p):\n    return hash(p)\n"),
            ("L8", "def f(p):\n    return chr(p)\n"), ("L10", "def f():\n" + "    f()\n" * 40), ("L10", "MOST = 3" + " " * 120),
            ("L12", "def _f():\n    return 3\n"), ("L14", "TEXT = '\u00e4'\n"), ("L15", "def f(list):\n    return 3\n"),
            ("L15", "MOST = 3\nMOST = 4\n"), ("L17", "# a type\n"), ("L17", "def f(p):\n    p.register()\n"),
            ("L18", "class A:\n    def f(self):\n        pass\n\n    def f(self):\n        pass\n"),
            ("L19", "def f():\n    try:\n        f()\n    except Exception:\n        pass\n"),
            ("L20", "def f(p):\n    return p is f\n"), ("L21", "def f(p: int):\n    return p\n"), ("L27", "TEXT = 'a\x25b'\n"),
        ]
        for rule, source in wrong:
            faults = file_faults("wrong.py", source)
            self.assertTrue(any(rule in fault.split() for fault in faults), (rule, source, faults))

    def test_wrong_file_names(self):
        for name in ("Big.py", "words.txt", "a-b.py"):
            self.assertEqual(len(file_faults(name, "")), 1)

    def test_wrong_packages(self):
        one = "from pactroom.two import f\n\n\ndef g():\n    f()\n"
        two = "from pactroom.one import g\n\n\ndef f():\n    g()\n"
        self.assertEqual(package_faults({"one.py": one, "two.py": two}), ["L16 ring at one", "L16 ring at two"])
        self.assertEqual(package_faults({"one.py": one, "two.py": ""}), ["L16 f"])
        kept = "class A:\n    def f(self):\n        self.g = 3\n\n    def g(self):\n        self.f().title()\n"
        self.assertEqual(package_faults({"one.py": kept}), ["L18 method and value g", "L25 method title"])


if __name__ == "__main__":
    unittest.main()
