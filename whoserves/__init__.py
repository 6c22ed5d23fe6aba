"""Duties shared by whoever is there, and how far anyone can come to owe."""
