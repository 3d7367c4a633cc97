"""Wellpanes: square pictures that hang within one another."""
