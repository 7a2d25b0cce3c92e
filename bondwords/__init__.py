"""Bondwords: letters that undo themselves, and their bonds."""
