"""Programs, and their runs that wait for each answer."""
