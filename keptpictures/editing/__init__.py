"""Editing: files of edited pictures."""
