"""[4]: the errors, their base and what they keep."""

import unittest

from foldsall import errors

PLACED = ("InvalidText InvalidBook InvalidOperation InvalidTable InvalidKey InvalidTree InvalidProgram InvalidValues "
          "InvalidChoices InvalidList InvalidRuns InvalidArrows InvalidPasses InvalidIndex InvalidPrices InvalidLot "
          "InvalidCut InvalidCode InvalidRest InvalidSorted InvalidShape Refused").split()


class ErrorsTest(unittest.TestCase):
    def test_all_are_direct_subclasses(self):
        self.assertEqual(errors.FoldError.__bases__, (Exception,))
        for name in PLACED + ["InvalidSize", "InvalidKind", "InvalidCommand"]:
            self.assertEqual(getattr(errors, name).__bases__, (errors.FoldError,))

    def test_arguments_are_kept(self):
        for thing in (-1, 3, "turns", None, [1, 2], (), errors.InvalidText(0)):
            for name in PLACED:
                self.assertIs(getattr(errors, name)(thing).at, thing)
                self.assertIs(getattr(errors, name)(at=thing).at, thing)
            self.assertIs(errors.InvalidSize(thing).word, thing)
            self.assertIs(errors.InvalidSize(word=thing).word, thing)

    def test_arguments_are_asked_for(self):
        for name in PLACED + ["InvalidSize"]:
            with self.assertRaises(TypeError):
                getattr(errors, name)()
        self.assertEqual(vars(errors.InvalidKind()), {})
        self.assertEqual(vars(errors.InvalidCommand()), {})

    def test_errors_are_neither_iterable_nor_long(self):
        with self.assertRaises(TypeError):
            list(errors.Refused(1))
        with self.assertRaises(TypeError):
            len(errors.Refused((1, 2)))


if __name__ == "__main__":
    unittest.main()
