"""Heaps of squares."""
