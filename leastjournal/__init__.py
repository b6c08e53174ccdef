"""Leastjournal: time travel with the smallest possible journal."""
