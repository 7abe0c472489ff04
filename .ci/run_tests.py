"""Runs the test files of some folders, each file in a process of its own, and counts their tests."""

import pathlib
import subprocess
import sys
import unittest

ROOT = pathlib.Path(__file__).resolve().parent.parent


class Counting(unittest.TextTestResult):
    """A result that also counts the tests that passed and names those that failed."""

    def __init__(self, *told, **named):
        super().__init__(*told, **named)
        self.passed = 0
        self.failed = set()

    def addSuccess(self, test):
        super().addSuccess(test)
        self.passed += 1

    def addExpectedFailure(self, test, err):
        super().addExpectedFailure(test, err)
        self.passed += 1

    def addFailure(self, test, err):
        super().addFailure(test, err)
        self.failed.add(test.id())

    def addError(self, test, err):
        super().addError(test, err)
        self.failed.add(test.id())

    def addUnexpectedSuccess(self, test):
        super().addUnexpectedSuccess(test)
        self.failed.add(test.id())

    def addSubTest(self, test, subtest, err):
        super().addSubTest(test, subtest, err)
        if err is not None:
            self.failed.add(test.id())


def run_file(path):
    """Runs one test file in this process; the last line it prints has the two numbers."""
    sys.path.insert(0, str(ROOT))
    suite = unittest.TestLoader().discover(str(path.parent), pattern=path.name, top_level_dir=str(path.parent))
    result = unittest.TextTestRunner(stream=sys.stdout, resultclass=Counting).run(suite)
    print()
    print(result.passed, len(result.failed), flush=True)


def counts_of(path):
    """Runs one test file in a new process and returns how many tests passed and failed."""
    print("==", path, flush=True)
    call = [sys.executable, "-B", __file__, "--file", str(path)]
    done = subprocess.run(call, cwd=ROOT, stdin=subprocess.DEVNULL, stdout=subprocess.PIPE,
                          stderr=subprocess.STDOUT, text=True, errors="replace")
    print(done.stdout, end="", flush=True)
    lines = done.stdout.splitlines()
    words = lines[-1].split() if lines else []
    if done.returncode != 0 or len(words) != 2 or not all(word.isdigit() for word in words):
        return 0, 1
    return int(words[0]), int(words[1])


def main(folders):
    """Runs all test files below the folders; returns the number to exit with."""
    passed = failed = 0
    for folder in folders:
        for path in sorted(pathlib.Path(folder).resolve().rglob("test_*.py")):
            more_passed, more_failed = counts_of(path)
            passed += more_passed
            failed += more_failed
    print(f"{passed} passed, {failed} failed", flush=True)
    return 0 if passed and not failed else 1


if __name__ == "__main__":
    if sys.argv[1:2] == ["--file"]:
        run_file(pathlib.Path(sys.argv[2]))
    else:
        sys.exit(main(sys.argv[1:]))
