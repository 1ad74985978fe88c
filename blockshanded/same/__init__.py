"""What is the same for all callers, and programs that are made of others."""
