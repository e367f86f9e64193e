"""Enoughcharge: programs on a charge that runs out, and the least charge that is enough."""
