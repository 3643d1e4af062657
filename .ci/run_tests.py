"""Run all files test_*.py of the given folders, each in a process of its own, and count their tests.

A folder that does not exist or holds no test is passed over. Files of different folders may have
the same name, so they never share a process.
"""

import concurrent.futures
import os
import re
import subprocess
import sys

MOST_SECONDS = 4800


def test_files(folders):
    """Pairs of a folder and a file in it or below it."""
    for folder in folders:
        for place, _, files in sorted(os.walk(folder)):
            for file in sorted(files):
                if re.fullmatch(r"test_.*\.py", file):
                    yield place, file


def run_file(place, file):
    """The report of one file, the number of its tests that passed, and of those that failed."""
    paths = [os.getcwd(), os.path.abspath(place)]
    environment = dict(os.environ, PYTHONPATH=os.pathsep.join(paths), PYTHONDONTWRITEBYTECODE="1")
    command = [sys.executable, "-m", "unittest", "discover", "-s", place, "-t", place, "-p", file]
    try:
        done = subprocess.run(command, env=environment, stdin=subprocess.DEVNULL, stdout=subprocess.PIPE,
                              stderr=subprocess.STDOUT, timeout=MOST_SECONDS, text=True, errors="replace")
    except subprocess.TimeoutExpired:
        return f"{os.path.join(place, file)} ran out of time", 0, 1
    ran = re.findall(r"^Ran (\d+) tests? in", done.stdout, re.MULTILINE)
    total = int(ran[-1]) if ran else 0
    bad = sum(int(number) for number in re.findall(r"(?:failures|errors|unexpected successes)=(\d+)", done.stdout[-300:]))
    if done.returncode != 0:
        bad = max(bad, 1)
    if total == 0:
        bad = max(bad, 1)
    return done.stdout, max(total - bad, 0), bad


def main(folders):
    jobs = list(test_files(folders))
    passed = failed = 0
    with concurrent.futures.ThreadPoolExecutor(os.cpu_count() or 1) as pool:
        for (place, file), (report, good, bad) in zip(jobs, pool.map(lambda job: run_file(*job), jobs)):
            print(f"{os.path.join(place, file)}: {good} passed, {bad} failed", flush=True)
            if bad:
                print(report, flush=True)
            passed, failed = passed + good, failed + bad
    print(f"{passed} passed, {failed} failed")
    return 1 if failed or not passed else 0


if __name__ == "__main__":
    sys.exit(main(sys.argv[1:]))
