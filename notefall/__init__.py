"""Notefall: notes that sink through rooms."""
