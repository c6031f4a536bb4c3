"""Reading streams."""
