"""Quickexact: when the quick test for two places of loops is exact."""
