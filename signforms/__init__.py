"""Signforms: one letter, written in several ways."""
