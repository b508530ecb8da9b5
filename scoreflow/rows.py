"""Rows of words: their stretches."""


# The shorter ones come first: what is reckoned of a stretch leans on the stretches within it.
def stretches(row):
    found = []
    for length in range(1, len(row) + 1):
        found.extend([(i, i + length) for i in range(len(row) - length + 1)])
    return found
