"""Numbers that bound what the package lists and what a floor has room for."""

MOST_LISTED = 300
MOST_MACHINES = 8
MOST_SPINDLES = 12
