"""Checksums, step numbers and bits."""
