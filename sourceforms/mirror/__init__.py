"""Forms with the same changes as solids."""
