"""Numbers that bound what the package lists."""

MOST_LISTED = 300
