"""The limits that callers have to keep to."""

MOST_ROUND = 12
MOST_ENDING = 6
MOST_REPLIES = 100
MOST_ITEMS = 1000
MOST_CUTTERS = 6
MOST_WIDTH = 12
