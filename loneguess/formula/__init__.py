"""Formulas of names, shelves of readers under these names, and what is true there."""
