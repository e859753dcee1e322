"""Runs every test_*.py below the named folders, says how many tests ran, and fails if one failed.

Each file runs in a process of its own, so that two files of one name do not stand for one another. Some run
at a time; what they say is shown file by file, in the order of their names.
The top of the repository is where the tests run and where they import the program from.
"""

import os
import pathlib
import subprocess
import sys
import tempfile
import unittest
from concurrent.futures import ThreadPoolExecutor

TOP = pathlib.Path(__file__).resolve().parent.parent

# No more, as tests look at how long calls take.
MOST_AT_A_TIME = 4


def run_here(path, report):
    """Runs the tests of one file in this process, and writes the three numbers into the report."""
    sys.path[:1] = [str(path.parent), str(TOP)]
    suite = unittest.defaultTestLoader.loadTestsFromName(path.stem)
    result = unittest.TextTestRunner(stream=sys.stdout, verbosity=1).run(suite)
    wrong = result.failures + result.errors + [(test, "") for test in result.unexpectedSuccesses]
    failed = len({getattr(test, "test_case", test).id() for test, _ in wrong})
    skipped = len(result.skipped)
    passed = max(0, result.testsRun - failed - skipped)
    report.write_text(f"{passed} {failed} {skipped}")
    return 0 if result.wasSuccessful() else 1


def run_file(path):
    """Runs one file in a new process.

    Returns what it said, and the numbers of tests that passed, failed and were skipped.
    """
    with tempfile.TemporaryDirectory() as folder:
        report = pathlib.Path(folder) / "report"
        command = [sys.executable, "-B", __file__, "--file", str(path), str(report)]
        done = subprocess.run(command, cwd=TOP, env={**os.environ, "PYTHONPATH": str(TOP)}, stdout=subprocess.PIPE,
                              stderr=subprocess.STDOUT, encoding="utf-8", errors="replace")
        if not report.exists():
            return done.stdout, (0, 1, 0)
        passed, failed, skipped = map(int, report.read_text().split())
    if done.returncode != 0:
        failed = max(1, failed)
    return done.stdout, (passed, failed, skipped)


def run_folders(folders):
    """Runs all test files below the folders; returns 0 if some test ran and none failed."""
    total = [0, 0, 0]
    paths = [path for folder in folders for path in sorted((TOP / folder).resolve().rglob("test_*.py"))]
    with ThreadPoolExecutor(min(MOST_AT_A_TIME, os.cpu_count() or 1)) as pool:
        for path, (said, numbers) in zip(paths, pool.map(run_file, paths)):
            print(f"== {path}\n{said}", end="", flush=True)
            total = [have + more for have, more in zip(total, numbers)]
    passed, failed, skipped = total
    print(f"== under Python {sys.version.split()[0]}, {passed + failed + skipped} tests ran")
    print(f"{passed} passed, {failed} failed, {skipped} skipped", flush=True)
    return 0 if passed > 0 and failed == 0 else 1


if __name__ == "__main__":
    if sys.argv[1] == "--file":
        sys.exit(run_here(pathlib.Path(sys.argv[2]), pathlib.Path(sys.argv[3])))
    sys.exit(run_folders(sys.argv[1:]))
