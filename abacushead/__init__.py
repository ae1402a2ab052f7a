"""Cheapest ways for a head on an endless row of places."""
