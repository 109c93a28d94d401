"""Dialrow: rows of dials turned by stretches, and the fewest steps from row to row."""
