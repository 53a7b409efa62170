"""Strings side by side."""


def woven(texts):
    """The signs of some strings, place by place, one string for each; None if they are not of one length."""
    if len(texts) == 0:
        return []
    if not all([len(text) == len(texts[0]) for text in texts]):
        return None
    return ["".join([text[at] for text in texts]) for at in range(len(texts[0]))]
