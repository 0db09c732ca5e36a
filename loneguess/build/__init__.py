"""Readers that are built so that they stay lone, or become so."""
