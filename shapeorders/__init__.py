"""Shapeorders: in which order numbers stand in a row."""
