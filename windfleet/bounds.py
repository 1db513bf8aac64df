"""The numbers that stand where none is told."""

DAY = 12
APART = 1
