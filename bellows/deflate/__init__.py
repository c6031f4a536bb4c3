"""Writing streams."""
