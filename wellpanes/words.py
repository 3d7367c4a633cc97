"""The fixed words of the program."""

# Of a picture turned by t, its quarter SHOWN[t][q], turned by t itself, stands at the quarter q.
SHOWN = (
    (0, 1, 2, 3),
    (2, 0, 3, 1),
    (3, 2, 1, 0),
    (1, 3, 0, 2),
    (1, 0, 3, 2),
    (3, 1, 2, 0),
    (2, 3, 0, 1),
    (0, 2, 1, 3),
)
