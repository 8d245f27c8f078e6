"""Every example that the document shows, as it stands there, from the folder `examples`; and those of README.md."""

import doctest
import unittest
from pathlib import Path

HERE = Path(__file__).parent


def load_tests(loader, tests, pattern):
    for path in sorted((HERE / "examples").glob("*.txt")) + [HERE.parent / "README.md"]:
        tests.addTests(doctest.DocFileSuite(str(path), module_relative=False))
    return tests


if __name__ == "__main__":
    unittest.main()
