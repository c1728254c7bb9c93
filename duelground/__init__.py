"""Duelground: games of two on a ground of places, won by moves that can be checked."""
