"""Endonce: rings of requests."""
