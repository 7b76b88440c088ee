"""Sums over the entries of a form."""
