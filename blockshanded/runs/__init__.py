"""Runs of programs."""
