"""Passes: the order in which the cells of a sheet are sent."""
