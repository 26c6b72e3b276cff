"""Run the tests in tests and under ../shared/tests; exit with 1 if one fails or tests holds none."""

import importlib.util
import sys
import unittest
from pathlib import Path

ROOT = Path(__file__).resolve().parent.parent
SHARED = ROOT.parent / "shared" / "tests"


def own_tests():
    """The tests of the project."""
    return unittest.TestLoader().discover(str(ROOT / "tests"), pattern="test_*.py", top_level_dir=str(ROOT))


def shared_tests(path):
    """The tests of one file; it gets a name of its own, for a file of the project may be called the same."""
    name = "shared_" + "_".join(path.relative_to(SHARED).with_suffix("").parts)
    sys.path.append(str(path.parent))
    spec = importlib.util.spec_from_file_location(name, path)
    module = importlib.util.module_from_spec(spec)
    sys.modules[name] = module
    spec.loader.exec_module(module)
    return unittest.TestLoader().loadTestsFromModule(module)


def main():
    sys.path.insert(0, str(ROOT))
    own = own_tests()
    if own.countTestCases() == 0:
        print("no test found in tests")
        return 1
    shared = [shared_tests(path) for path in sorted(SHARED.rglob("test_*.py"))]
    result = unittest.TextTestRunner(stream=sys.stdout).run(unittest.TestSuite([own, *shared]))
    bad = len(result.failures) + len(result.errors) + len(result.unexpectedSuccesses)
    good = max(0, result.testsRun - bad - len(result.skipped))
    print(f"{result.testsRun} tests ran on Python {sys.version.split()[0]}")
    print(f"{good} passed, {bad} failed, {len(result.skipped)} skipped")
    return 0 if result.wasSuccessful() else 1


if __name__ == "__main__":
    sys.exit(main())
