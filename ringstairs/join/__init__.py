"""Pieces that are joined, and their tables."""
