"""Zonewalk: machines with watches, and whether a room is come to."""
