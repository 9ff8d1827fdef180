"""The places of a round among the images of its cell.

What the places are hangs only on the shape in which the images lie: 0 for eight images, 1 for
four on the diagonals, 2 for four in the middle of the edges of a square, 3 for one. An image
is told by its index among the ascending ones.
"""

# How many images there are in each shape.
IMAGE_COUNTS = (8, 4, 4, 1)

# The index of each place in the rows of IMAGES_AT.
PLACE_INDEXES = {
    "i,j": 0, "j,i": 1, "i,~j": 2, "~j,i": 3, "~i,j": 4, "j,~i": 5, "~i,~j": 6, "~j,~i": 7,
}

# For each shape and the round of each image: the images that the places are.
IMAGES_AT = (
    (
        (0, 2, 1, 4, 6, 3, 7, 5), (1, 4, 0, 2, 7, 5, 6, 3), (2, 0, 3, 6, 4, 1, 5, 7), (3, 6, 2, 0, 5, 7, 4, 1),
        (4, 1, 5, 7, 2, 0, 3, 6), (5, 7, 4, 1, 3, 6, 2, 0), (6, 3, 7, 5, 0, 2, 1, 4), (7, 5, 6, 3, 1, 4, 0, 2),
    ),
    ((0, 0, 1, 2, 2, 1, 3, 3), (1, 2, 0, 0, 3, 3, 2, 1), (2, 1, 3, 3, 0, 0, 1, 2), (3, 3, 2, 1, 1, 2, 0, 0)),
    ((0, 1, 0, 1, 3, 2, 3, 2), (1, 0, 2, 3, 1, 0, 2, 3), (2, 3, 1, 0, 2, 3, 1, 0), (3, 2, 3, 2, 0, 1, 0, 1)),
    ((0, 0, 0, 0, 0, 0, 0, 0),),
)

# For each shape and the round of each image: how many different ones of the four numbers of
# the cell are less than i, j, ~i and ~j.
RANKS_AT = (
    (
        (0, 1, 3, 2), (0, 2, 3, 1), (1, 0, 2, 3), (1, 3, 2, 0),
        (2, 0, 1, 3), (2, 3, 1, 0), (3, 1, 0, 2), (3, 2, 0, 1),
    ),
    ((0, 0, 1, 1), (0, 1, 1, 0), (1, 0, 0, 1), (1, 1, 0, 0)),
    ((0, 1, 2, 1), (1, 0, 1, 2), (1, 2, 1, 0), (2, 1, 0, 1)),
    ((0, 0, 0, 0),),
)

# For an outer loop and an inner one, each 1 if it descends: for each shape the images in the
# order in which their rounds are done.
ORDERS = {
    (0, 0): ((0, 1, 2, 3, 4, 5, 6, 7), (0, 1, 2, 3), (0, 1, 2, 3), (0,)),
    (0, 1): ((1, 0, 3, 2, 5, 4, 7, 6), (1, 0, 3, 2), (0, 2, 1, 3), (0,)),
    (1, 0): ((6, 7, 4, 5, 2, 3, 0, 1), (2, 3, 0, 1), (3, 1, 2, 0), (0,)),
    (1, 1): ((7, 6, 5, 4, 3, 2, 1, 0), (3, 2, 1, 0), (3, 2, 1, 0), (0,)),
}
