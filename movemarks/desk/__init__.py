"""Promises about kinds, and desks that keep them."""
