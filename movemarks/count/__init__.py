"""Counts of patterns, roots and subgroups."""
