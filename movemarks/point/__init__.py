"""Sets with moves."""
