"""Runs the files test_*.py in the folders that are passed, and tells how many tests passed."""

import os
import subprocess
import sys

# Each file is run by itself, so that files of the same name in two folders do not meet.
RUNNER = """
import sys, unittest
suite = unittest.defaultTestLoader.discover(sys.argv[1], pattern=sys.argv[2], top_level_dir=sys.argv[1])
result = unittest.TextTestRunner(verbosity=1).run(suite)
wrong = len(result.failures) + len(result.errors) + len(result.unexpectedSuccesses)
print("counted", result.testsRun, wrong)
sys.exit(0 if result.wasSuccessful() else 1)
"""


def test_files(folder):
    """The pairs of the folder and the name of each file with tests."""
    found = []
    for place, folders, names in os.walk(folder):
        folders.sort()
        found.extend((place, name) for name in sorted(names) if name.startswith("test_") and name.endswith(".py"))
    return found


def run_file(place, name):
    """How many tests of a file ran, and how many of them failed; a file that cannot be run counts as a failure."""
    print(f"== {place}/{name}", flush=True)
    done = subprocess.run([sys.executable, "-c", RUNNER, place, name], stdout=subprocess.PIPE, text=True)
    lines = done.stdout.splitlines()
    if not lines or not lines[-1].startswith("counted "):
        return 1, 1
    ran, wrong = (int(word) for word in lines[-1].split()[1:])
    if done.returncode != 0 and wrong == 0:
        return max(ran, 1), 1
    return ran, wrong


def main(folders):
    """Runs all files; the status is 1 if a test failed, or none ran."""
    ran = wrong = 0
    for folder in folders:
        for place, name in test_files(folder):
            more_ran, more_wrong = run_file(place, name)
            ran, wrong = ran + more_ran, wrong + more_wrong
    print(f"{ran - wrong} passed, {wrong} failed")
    return 1 if wrong or not ran else 0


if __name__ == "__main__":
    sys.exit(main(sys.argv[1:]))
