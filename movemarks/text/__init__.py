"""Texts of moves, groups, rows and kinds."""
