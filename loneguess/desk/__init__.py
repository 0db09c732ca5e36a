"""Readers and claims that are changed step by step."""
