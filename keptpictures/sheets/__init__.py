"""Sheets of samples, and questions about them."""
