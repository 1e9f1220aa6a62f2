"""Samesteps: rooms with marked steps, alike or told apart."""
