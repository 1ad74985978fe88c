"""Questions about all runs of a program."""
