"""A writer and a reader with a channel between them."""
