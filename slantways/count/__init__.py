"""The two counts of a way."""
