"""Relations, tables, and how they are reckoned."""
