"""Partings of points on a ring."""
