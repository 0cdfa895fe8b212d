"""Slopes, ways, and words that are turned round."""
