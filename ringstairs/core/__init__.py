"""Cores, and their words."""
