"""Moves and groups of moves."""
