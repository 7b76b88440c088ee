"""Forms and their layings."""
