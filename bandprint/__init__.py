"""Bandprint: rings of signs that run side by side and print on one another."""
