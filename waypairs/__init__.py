"""Waypairs: webs of objects that travel, and who can tell the web that came back."""
