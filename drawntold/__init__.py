"""Drawntold: tellings of pictures of data."""
