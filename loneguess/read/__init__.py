"""Readers, their ways and their rows."""
