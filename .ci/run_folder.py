"""Run the tests test_*.py of one folder, and tell how many passed and failed."""

import sys
import unittest


def main(folder):
    suite = unittest.TestLoader().discover(folder, pattern="test_*.py", top_level_dir=folder)
    result = unittest.TextTestRunner(stream=sys.stdout).run(suite)
    wrong = len(result.failures) + len(result.errors) + len(result.unexpectedSuccesses)
    skipped = len(result.skipped)
    passed = max(0, result.testsRun - wrong - skipped)
    print(f"{folder}")
    print(f"{passed} passed, {wrong} failed, {skipped} skipped")
    # A folder of the project without a test is a mistake; one of shared tests may be empty.
    return 1 if wrong or (folder == "tests" and result.testsRun == 0) else 0


sys.exit(main(sys.argv[1]))
