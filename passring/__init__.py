"""Passring: stations on a ring that pass one token."""
