"""Circuits, layers, and how layers are led down to trees."""
