"""The roads of a mine: who can be where, and when at the earliest."""
