"""Slantways: ways below a slanted line, and what they count."""
