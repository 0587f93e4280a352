"""Warnings that don't lapse: a panel of warnings, answered call by call."""
