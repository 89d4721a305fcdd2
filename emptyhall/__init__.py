"""Emptyhall: people who leave a house by its ways, minute by minute."""
