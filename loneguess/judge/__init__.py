"""Lone readers that cover what a further reader reads."""
