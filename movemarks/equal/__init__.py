"""Sets that cannot be told apart by single moves."""
