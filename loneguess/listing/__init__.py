"""Texts in their order, by their numbers."""
