"""Decision trees, and the least ones."""
