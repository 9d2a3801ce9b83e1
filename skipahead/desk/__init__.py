"""Clients, which tell what to send, and the desk, which does commands."""
