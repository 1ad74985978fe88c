"""Runs that go on for ever."""
