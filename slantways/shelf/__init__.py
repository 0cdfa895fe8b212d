"""Shelves: lots of integers that are closed under adding the numbers of a slope."""
