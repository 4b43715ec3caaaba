"""Restingfixes: books of fixes that go over texts in rounds."""
