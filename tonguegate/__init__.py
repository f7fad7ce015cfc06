"""Tonguegate: worths handed to another tongue and back."""
