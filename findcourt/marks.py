"""Things marked in a dict, for asking often whether one is among them."""


def marked(things):
    return dict([(thing, True) for thing in things])
