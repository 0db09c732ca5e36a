"""Tallies, and what is known of them by counting."""
