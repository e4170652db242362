"""Beatflows: programs of flows, beat by beat."""
