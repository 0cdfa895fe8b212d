"""Desks that keep ways under names."""
