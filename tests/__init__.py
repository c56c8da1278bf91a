"""The tests of quickexact."""
