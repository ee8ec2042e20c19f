"""Files: chunks that hold a picture."""
