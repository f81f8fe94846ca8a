"""Subgroups and their classes."""
