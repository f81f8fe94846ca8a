"""Rows that are their own squares."""
