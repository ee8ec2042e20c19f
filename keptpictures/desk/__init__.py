"""The desk: named items, and commands that work on them."""
