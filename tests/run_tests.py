"""Run all tests of one folder: python3 tests/run_tests.py WORD FOLDER.

Prints each test that it runs and closes with how many passed and failed.
Ends with 1 where one failed, or where none ran.
"""

import sys
import unittest


def main(word, folder):
    suite = unittest.TestLoader().discover(folder, pattern="test_*.py")
    result = unittest.TextTestRunner(stream=sys.stdout, verbosity=2).run(suite)
    failed = len(result.failures) + len(result.errors) + len(result.unexpectedSuccesses)
    skipped = len(result.skipped)
    passed = max(0, result.testsRun - failed - skipped)
    print(f"{word}: {passed} passed, {failed} failed, {skipped} skipped", flush=True)
    return 0 if passed > 0 and failed == 0 else 1


if __name__ == "__main__":
    sys.exit(main(sys.argv[1], sys.argv[2]))
