"""Commands sent ahead down one line."""
