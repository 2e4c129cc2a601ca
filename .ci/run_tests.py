"""Run the tests of the project and those beside it, and say how many passed and failed."""

import importlib.util
import pathlib
import sys
import traceback
import unittest

TOP = pathlib.Path(__file__).resolve().parent.parent
OWN = TOP / "tests"
SHARED = TOP.parent / "shared" / "tests"


class Counted(unittest.TextTestResult):
    """Counts the tests that passed; one with a failed subtest is none of them."""

    def __init__(self, *told, **more):
        super().__init__(*told, **more)
        self.passed = 0

    def addSuccess(self, test):
        super().addSuccess(test)
        self.passed += 1

    def addExpectedFailure(self, test, err):
        super().addExpectedFailure(test, err)
        self.passed += 1

    def count_failed(self):
        wrong = [test for test, _ in self.failures + self.errors] + list(self.unexpectedSuccesses)
        return len({getattr(test, "test_case", test).id() for test in wrong})


def find_files(folder):
    return sorted(folder.rglob("test_*.py")) if folder.is_dir() else []


def load(path, name):
    """Import a test file under a name of its own: both folders may hold files of one name."""
    spec = importlib.util.spec_from_file_location(name, path)
    module = importlib.util.module_from_spec(spec)
    sys.modules[name] = module
    spec.loader.exec_module(module)
    return module


def forget(folder):
    """Drop what was imported from a folder of tests, lest a file in another folder gets it."""
    for name, module in list(sys.modules.items()):
        origin = getattr(module, "__file__", None)
        if name != "__main__" and origin and folder in pathlib.Path(origin).resolve().parents:
            del sys.modules[name]


def run_file(path, name):
    """Run one file of tests; tell how many passed, failed and were skipped."""
    print(f"== {path}", flush=True)
    sys.path.insert(0, str(path.parent))
    try:
        suite = unittest.TestLoader().loadTestsFromModule(load(path, name))
        runner = unittest.TextTestRunner(stream=sys.stdout, resultclass=Counted)
        result = runner.run(suite)
    except (Exception, SystemExit):
        traceback.print_exc(file=sys.stdout)
        return 0, 1, 0
    finally:
        sys.path.remove(str(path.parent))
        forget(path.parent.resolve())
    return result.passed, result.count_failed(), len(result.skipped)


def main():
    sys.path.insert(0, str(TOP))
    own = find_files(OWN)
    counts = [run_file(path, f"test_file_{at}") for at, path in enumerate(own + find_files(SHARED))]
    passed, failed, skipped = [sum(column) for column in zip((0, 0, 0), *counts)]
    if not own or not passed:
        print("the project's own tests are not there")
        failed += 1
    print(f"{passed} passed, {failed} failed, {skipped} skipped")
    return 1 if failed else 0


if __name__ == "__main__":
    sys.exit(main())
