"""Heardhouse: a house of heard cases."""
