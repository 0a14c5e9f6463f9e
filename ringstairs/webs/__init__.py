"""Webs, fire and debt."""
