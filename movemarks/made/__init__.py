"""Sets that are made of sets, told by their mark rows."""
