"""Untoldrule: weavings that keep every rule which whole programs keep."""
