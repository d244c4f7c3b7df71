"""Runs all tests of the project and all under ../shared/tests, each folder in a process of its own."""

import os
import pathlib
import subprocess
import sys
import unittest

ROOT = pathlib.Path(__file__).resolve().parent.parent
SHARED = ROOT.parent / "shared" / "tests"


def run_folder(folder, top):
    """Runs the tests of one folder; tells how many passed and how many failed, as its last line."""
    suite = unittest.defaultTestLoader.discover(folder, pattern="test_*.py", top_level_dir=top)
    result = unittest.TextTestRunner(verbosity=1).run(suite)
    failed = len(result.failures) + len(result.errors) + len(result.unexpectedSuccesses)
    print(result.testsRun - failed, failed)


def counts_of(folder, top):
    """(passed, failed) of one folder; a process that breaks off counts as a failure."""
    print("tests of", folder, flush=True)
    env = dict(os.environ, PYTHONPATH=str(ROOT), PYTHONDONTWRITEBYTECODE="1")
    words = [sys.executable, __file__, str(folder), str(top)]
    told = subprocess.run(words, cwd=ROOT, env=env, stdout=subprocess.PIPE, text=True)
    lines = told.stdout.strip().split("\n")
    print("\n".join(lines[:-1]))
    try:
        passed, failed = (int(word) for word in lines[-1].split())
    except ValueError:
        return (0, 1)
    return (passed, failed + (told.returncode != 0))


def main():
    folders = [(ROOT / "tests", ROOT)]
    folders += [(folder, folder) for folder in sorted({path.parent for path in SHARED.rglob("test_*.py")})]
    counts = [counts_of(*folder) for folder in folders]
    passed, failed = sum(p for p, _ in counts), sum(f for _, f in counts)
    print(f"{passed} passed, {failed} failed")
    sys.exit(0 if failed == 0 and counts[0][0] > 0 else 1)


if __name__ == "__main__":
    if len(sys.argv) == 3:
        run_folder(sys.argv[1], sys.argv[2])
    else:
        main()
