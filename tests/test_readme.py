"""The examples of README.md answer what stands behind them."""

import pathlib
import unittest

from threewebs.errors import NetError

README = pathlib.Path(__file__).parent.parent / "README.md"


def examples():
    """The lines of the examples, block by block."""
    blocks = README.read_text(encoding="utf-8").split("```")[1::2]
    return [block.split("\n")[1:] for block in blocks if block.startswith("python\n")]


class Examples(unittest.TestCase):
    def check(self, code, wanted, names):
        if not wanted.startswith("refused with "):
            self.assertEqual(eval(code, names), eval(wanted, names), code)
            return
        with self.assertRaises(NetError, msg=code) as kept:
            eval(code, names)
        self.assertEqual(type(kept.exception).__name__, wanted.split(" ")[2])

    def test_each_line(self):
        self.assertTrue(examples())
        for lines in examples():
            names = {}
            for line in lines:
                code, mark, wanted = line.partition("  # ")
                if mark:
                    self.check(code.strip(), wanted, names)
                else:
                    exec(line, names)


if __name__ == "__main__":
    unittest.main()
