"""Parleyhall: talks, manners of answering, and manners put together."""
