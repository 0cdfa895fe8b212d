"""Steady shuffles of a slope and their wishes."""
