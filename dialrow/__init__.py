"""Dialrow: rows of dials turned by stretches."""
