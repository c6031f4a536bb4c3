"""Prefix codes."""
