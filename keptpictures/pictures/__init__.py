"""Pictures, and recipes that change them."""
