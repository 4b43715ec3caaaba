import doctest
import pathlib
import unittest

EXAMPLES = pathlib.Path(__file__).resolve().parent / "examples.txt"


class Examples(unittest.TestCase):
    def test_the_sessions_of_the_document(self):
        sessions = EXAMPLES.read_text().strip().split("\n\n")
        self.assertEqual(len(sessions), 14)
        for number, session in enumerate(sessions):
            # Each one begins with nothing but what Python itself brings.
            test = doctest.DocTestParser().get_doctest(session + "\n", {}, f"session {number}", None, 0)
            self.assertGreaterEqual(len(test.examples), 2)
            told = doctest.DocTestRunner().run(test)
            self.assertEqual(told.failed, 0, session)
