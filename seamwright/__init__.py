"""Webs put together of points, stretches, triangles and up, and their holes, by whole numbers."""
