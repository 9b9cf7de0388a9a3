"""Viewstrike: taking answers out of a view with the least loss."""
