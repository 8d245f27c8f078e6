"""Every example that the document shows, as it stands there, from the folder `examples`."""

import doctest
import unittest
from pathlib import Path

FOLDER = Path(__file__).parent / "examples"


def load_tests(loader, tests, pattern):
    for path in sorted(FOLDER.glob("*.txt")):
        tests.addTests(doctest.DocFileSuite(str(path), module_relative=False))
    return tests


if __name__ == "__main__":
    unittest.main()
