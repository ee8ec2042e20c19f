"""Knowledge: what is left of a file tells this about its samples."""
