"""The refusals of the interface."""

import unittest

from pursewright.errors import NoChain, NoPaper, NoProgram, NoRow, NoText, NoTurn, NoValue, PurseError

REFUSALS = (NoText, NoProgram, NoValue, NoPaper, NoTurn, NoChain, NoRow)


def made():
    return (NoText(3), NoProgram("twice", "abc"), NoValue(), NoPaper(4), NoTurn(), NoChain("nil"), NoRow())


class ErrorsTest(unittest.TestCase):
    def test_base(self):
        self.assertTrue(issubclass(PurseError, ValueError))
        self.assertIsInstance(PurseError(), ValueError)

    def test_none_under_another(self):
        for own, error in zip(REFUSALS, made()):
            self.assertIsInstance(error, PurseError)
            self.assertIsInstance(error, ValueError)
            self.assertEqual([kind for kind in REFUSALS if isinstance(error, kind)], [own])
            self.assertIsNot(own, PurseError)

    def test_fields(self):
        self.assertEqual(NoText(0).row, 0)
        self.assertEqual(NoText(17).row, 17)
        self.assertEqual(NoProgram("count", "more").word, "count")
        self.assertEqual(NoProgram("count", "more").name, "more")
        self.assertEqual(NoPaper(5).row, 5)
        self.assertIsNone(NoPaper(None).row)
        self.assertEqual(NoChain("nil").maker, "nil")

    def test_what_stands_in_the_brackets_is_due(self):
        for kind, words in ((NoText, ()), (NoProgram, ("twice",)), (NoPaper, ()), (NoChain, ())):
            with self.assertRaises(TypeError):
                kind(*words)

    def test_taken_by_own_name_and_by_base(self):
        for own, error in zip(REFUSALS, made()):
            for name in (own, PurseError, ValueError):
                with self.assertRaises(name) as taken:
                    raise error
                self.assertIs(taken.exception, error)

    def test_objects_keep_their_own(self):
        first = NoProgram("kind", "x")
        second = NoProgram("arms", "y")
        self.assertEqual((first.word, first.name, second.word, second.name), ("kind", "x", "arms", "y"))

    def test_words_are_told(self):
        for error in made():
            self.assertIsInstance(str(error), str)


if __name__ == "__main__":
    unittest.main()
