"""Run the tests of a folder (of tests, if none is named), and tell how many passed and failed.

If no test was run, that is a failure, since then nothing was tested.
"""

import os
import sys
import unittest


def main():
    """Run the tests; return 0 if some were run and none failed."""
    here = os.path.dirname(os.path.abspath(__file__))
    folder = os.path.abspath(sys.argv[1]) if len(sys.argv) > 1 else os.path.join(here, "tests")
    sys.path.insert(0, here)
    suite = unittest.TestLoader().discover(folder, pattern="test_*.py", top_level_dir=folder)
    result = unittest.TextTestRunner(stream=sys.stdout).run(suite)
    failed = len(result.failures) + len(result.errors) + len(result.unexpectedSuccesses)
    skipped = len(result.skipped)
    print(f"{result.testsRun - failed - skipped} passed, {failed} failed, {skipped} skipped", flush=True)
    return 0 if failed == 0 and result.testsRun > 0 else 1


if __name__ == "__main__":
    sys.exit(main())
