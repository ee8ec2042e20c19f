"""Planning: which of the ways to write a picture has the fewest bytes."""
