"""Wheelwritten: writing the places of a wheel by dials."""
