"""Packshelf: boxes on shelves, each at the first place that fits."""
