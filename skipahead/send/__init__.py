"""Senders, their runs, and what shows whether they do the same as programs."""
