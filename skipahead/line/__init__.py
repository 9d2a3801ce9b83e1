"""The line, servers and facts."""
