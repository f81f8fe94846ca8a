"""Integers, ratios and tables."""
