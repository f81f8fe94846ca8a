"""The mark table, and which rows are mark rows."""
