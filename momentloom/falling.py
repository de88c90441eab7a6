"""Lists that fall: their least thing lies last, where it leaves without moving the others."""


def place_in(falling, thing):
    """The place at which the thing lies, or, where it is not there, at which it is to be put in."""
    low = 0
    high = len(falling)
    while low < high:
        middle = (low + high) // 2
        if falling[middle] > thing:
            low = middle + 1
        else:
            high = middle
    return low


def put_in(falling, thing):
    falling.insert(place_in(falling, thing), thing)


def last_of(falling):
    """The least thing, or None."""
    return falling[-1] if falling else None
