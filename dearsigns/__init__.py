"""Dearsigns: books of words in signs that cost unlike."""
