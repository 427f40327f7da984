"""Bandsplits: rows of samples split into two bands, decided for all rows."""
