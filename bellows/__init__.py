"""Bellows: compressing bytes, and keeping them in a log that survives crashes."""
