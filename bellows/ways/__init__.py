"""Working with streams that are there as a whole."""
