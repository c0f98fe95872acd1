"""Evenbits: an audio codec's bit reservoir, and the rows that are best for every convex price."""
