"""Roots that forms have in common, and real roots."""
