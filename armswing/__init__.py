"""Armswing: an arm over a turning plate, and who is next."""
