"""Movemarks: sets with moves, and rows that count the points that stay."""
