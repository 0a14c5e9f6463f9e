"""Richness, and its papers."""
