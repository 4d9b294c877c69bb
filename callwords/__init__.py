"""Callwords: what a line of words calls for, with worths taken from layers."""
