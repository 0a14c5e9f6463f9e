"""Ringstairs: chips on chains of rings, and what both ends tell."""
