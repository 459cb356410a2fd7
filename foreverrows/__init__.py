"""Foreverrows: rows of signs without end, and when two worlds flow alike."""
