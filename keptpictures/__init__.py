"""Keptpictures: pictures kept in files, and what a torn file still tells."""
