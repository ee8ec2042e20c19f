"""Filters: what is left of a sample when the samples sent before it are known."""
