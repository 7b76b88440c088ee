"""Forms whose roots come too often."""
