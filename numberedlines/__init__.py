"""Numberedlines: programs of numbered lines."""
