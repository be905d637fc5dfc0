"""Streetpapers: walkers that change the floor on which they walk, and papers for all time."""
