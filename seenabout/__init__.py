"""Seenabout: landmarks seen in their order, from places that nobody knows."""
