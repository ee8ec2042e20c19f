"""Hurts: files that lost something, and what is left of them."""
