"""The limits of the package, and the names of the places."""

MOST_NESTS = 4
MOST_DEEDS = 6
MOST_ROWS = 12
MOST_SIZE = 10 ** 30
MOST_POWER = 10 ** 30
MOST_LISTED = 200
MOST_CHANGES = 6
MOST_PROGRAMS = 8

PLACES = ("i,j", "j,i", "i,~j", "~j,i", "~i,j", "j,~i", "~i,~j", "~j,~i")
