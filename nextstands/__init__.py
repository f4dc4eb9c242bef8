"""Chairs round a table, and calls that move people back."""
