"""Farreads: endless tables whose cells read other cells."""
