"""Runs every test_*.py below the named folders, says how many tests ran, and fails if one failed.

Each file runs in a process of its own, so that two files of one name do not stand for one another.
The top of the repository is where the tests run and where they import the program from.
"""

import os
import pathlib
import subprocess
import sys
import tempfile
import unittest

TOP = pathlib.Path(__file__).resolve().parent.parent


def run_here(path, report):
    """Runs the tests of one file in this process, and writes the three numbers into the report."""
    sys.path[:1] = [str(path.parent), str(TOP)]
    suite = unittest.defaultTestLoader.loadTestsFromName(path.stem)
    result = unittest.TextTestRunner(stream=sys.stdout, verbosity=1).run(suite)
    wrong = result.failures + result.errors + [(test, "") for test in result.unexpectedSuccesses]
    failed = len({getattr(test, "test_case", test).id() for test, _ in wrong})
    skipped = len(result.skipped)
    passed = max(0, result.testsRun - failed - skipped)
    report.write_text(f"{passed} {failed} {skipped}")
    return 0 if result.wasSuccessful() else 1


def run_file(path):
    """Runs one file in a new process; returns the numbers of tests that passed, failed and were skipped."""
    print(f"== {path}", flush=True)
    with tempfile.TemporaryDirectory() as folder:
        report = pathlib.Path(folder) / "report"
        command = [sys.executable, "-B", __file__, "--file", str(path), str(report)]
        code = subprocess.run(command, cwd=TOP, env={**os.environ, "PYTHONPATH": str(TOP)}).returncode
        if not report.exists():
            return 0, 1, 0
        passed, failed, skipped = map(int, report.read_text().split())
    if code != 0:
        failed = max(1, failed)
    return passed, failed, skipped


def run_folders(folders):
    """Runs all test files below the folders; returns 0 if some test ran and none failed."""
    total = [0, 0, 0]
    for folder in folders:
        for path in sorted((TOP / folder).resolve().rglob("test_*.py")):
            total = [have + more for have, more in zip(total, run_file(path))]
    passed, failed, skipped = total
    print(f"== under Python {sys.version.split()[0]}, {passed + failed + skipped} tests ran")
    print(f"{passed} passed, {failed} failed, {skipped} skipped", flush=True)
    return 0 if passed > 0 and failed == 0 else 1


if __name__ == "__main__":
    if sys.argv[1] == "--file":
        sys.exit(run_here(pathlib.Path(sys.argv[2]), pathlib.Path(sys.argv[3])))
    sys.exit(run_folders(sys.argv[1:]))
