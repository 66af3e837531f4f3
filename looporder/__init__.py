"""Shortest ways by loops in the wrong order."""
