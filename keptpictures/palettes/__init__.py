"""Palettes, and the orders in which a picture's colours stand in one."""
