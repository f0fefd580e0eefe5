"""What a name of a point or a tie is."""

SIGNS = "abcdefghijklmnopqrstuvwxyz0123456789"
LONGEST = 8


def is_name(thing):
    """Whether a thing is a name: a text of one to eight small letters and figures."""
    if not isinstance(thing, str):
        return False
    # The length is asked first, so that a long text is not walked.
    if len(thing) < 1 or len(thing) > LONGEST:
        return False
    return all([sign in SIGNS for sign in thing])
