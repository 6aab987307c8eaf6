import unittest

from common import odd_things
from paymill.names import is_name


class NameTest(unittest.TestCase):
    def test_names(self):
        for thing in ("a", "z", "bob", "abcdefgh", "zzzzzzzz"):
            self.assertIs(is_name(thing), True)
        self.assertIs(is_name(thing="x"), True)

    def test_other_things(self):
        for thing in odd_things():
            self.assertIs(is_name(thing), type(thing) is str and thing in ("a", "ab"))
        for thing in ("", "abcdefghi", "A", "aB", "a1", "1", "a b", " a", "a ", "a\n", "-", "a-b", "\u00e9",
                      "a\u00df", "\u0430", "a" * 10 ** 6, b"a", ("a",), ["a"]):
            self.assertIs(is_name(thing), False, thing)


if __name__ == "__main__":
    unittest.main()
