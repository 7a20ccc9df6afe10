"""Alsoshown: what every endless round on a net shows."""
