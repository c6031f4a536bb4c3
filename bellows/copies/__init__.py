"""Tokens, their symbols, and how data is parsed into them."""
