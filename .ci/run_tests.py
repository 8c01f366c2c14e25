"""Run the tests of the project, then those under ../shared/tests, and count them.

Each folder with tests has a process of its own, so that equal names of files do not matter.
"""

import os
import pathlib
import re
import subprocess
import sys

ROOT = pathlib.Path(__file__).resolve().parent.parent
OWN_TESTS = ROOT / "tests"
SHARED_TESTS = ROOT.parent / "shared" / "tests"


def folders_with_tests(top):
    """The folders at and below the top that hold a test, in order."""
    return sorted({path.parent for path in top.rglob("test_*.py")})


def told(pattern, output):
    """The number that the runner told last in this way, or 0."""
    found = re.findall(pattern, output)
    return int(found[-1]) if found else 0


def run_folder(folder):
    """Run the tests of a folder, and return how many passed, failed and were skipped."""
    modules = sorted(path.stem for path in folder.glob("test_*.py"))
    print(f"{folder}: {len(modules)} files", flush=True)
    paths = [str(ROOT), os.environ.get("PYTHONPATH", "")]
    settings = {**os.environ, "PYTHONPATH": os.pathsep.join(path for path in paths if path),
                "PYTHONDONTWRITEBYTECODE": "1"}
    done = subprocess.run([sys.executable, "-m", "unittest", *modules], cwd=folder, env=settings, text=True,
                          stdin=subprocess.DEVNULL, stdout=subprocess.PIPE, stderr=subprocess.STDOUT)
    print(done.stdout, flush=True)
    ran = told(r"(?m)^Ran (\d+) tests? in", done.stdout)
    failed = sum(told(rf"(?m)^FAILED \(.*\b{word}=(\d+)", done.stdout)
                 for word in ("failures", "errors", "unexpected successes"))
    skipped = told(r"(?m)^(?:OK|FAILED) \(.*\bskipped=(\d+)", done.stdout)
    # A process that ends badly, or without a count, has failed all the same; 5 is the exit code for no tests.
    counted = re.search(r"(?m)^Ran \d+ tests? in", done.stdout) is not None
    if done.returncode not in (0, 5) or not counted:
        failed = max(failed, 1)
    return max(ran - failed - skipped, 0), failed, skipped


def main():
    """Run all folders; the exit code tells whether all tests passed."""
    if not folders_with_tests(OWN_TESTS):
        print("the project has no tests")
        return 1
    counts = [run_folder(folder) for top in (OWN_TESTS, SHARED_TESTS) for folder in folders_with_tests(top)]
    passed, failed, skipped = [sum(column) for column in zip(*counts)]
    print(f"{passed} passed, {failed} failed, {skipped} skipped")
    return 1 if failed or not passed else 0


if __name__ == "__main__":
    sys.exit(main())
