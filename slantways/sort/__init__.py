"""Sorting of words and of ways by levels."""
