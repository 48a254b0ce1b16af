"""Swaykeep: what a house of helping latches keeps of all that swayed it."""
