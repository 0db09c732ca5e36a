"""Readers that guess, compared by counting alone."""
