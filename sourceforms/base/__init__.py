"""Ratios and tables of integers."""
