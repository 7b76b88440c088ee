"""Forms in two letters, and all that changes along with them."""
