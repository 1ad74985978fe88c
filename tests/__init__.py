"""The tests of the promises, by the interface alone."""
