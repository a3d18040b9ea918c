"""Guestworlds: whole machines held by one machine."""
