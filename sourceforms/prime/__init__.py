"""Forms over prime fields, and their changes."""
