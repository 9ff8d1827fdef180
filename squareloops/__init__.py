"""Squareloops: loops over a square table, for all sizes and all entries."""
