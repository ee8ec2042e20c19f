"""Codes: the bits that stand for the numbers of a lane."""
