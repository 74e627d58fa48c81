"""What two ways have in common: memos, and the levels at which they lead to one thing."""


def _memos_after(fates, made, others, kept):
    """The memos behind a step: for each travel what is kept, if both things were made by it."""
    found = []
    for at in range(len(fates)):
        found.append(at + 1 in made and at + 1 in others and kept[at])
    return tuple(found)


def alone(fates, made, others, memos):
    """Whether both things were made in one memo, for each travel, behind a step that one way takes alone."""
    kept = [memo and fate == "goes" for fate, memo in zip(fates, memos)]
    return _memos_after(fates, made, others, kept)


def together(fates, made, others, memos, same):
    """Whether both things were made in one memo, for each travel, behind a step that both ways take."""
    kept = [one or (memo and fate == "goes") for fate, memo, one in zip(fates, memos, same)]
    return _memos_after(fates, made, others, kept)


def _meets(rule, memo, before):
    """Whether two things that a travel made are one; before tells it for the level before."""
    if rule == "itself":
        return memo and before
    return rule == "marks" and memo


def meeting(rules, made, others, memos, *, same=None, home=True):
    """Whether two ways lead to one thing, for each level from 1 on; same tells it for where they took a step together.

    The value for level 0 is home.
    """
    found = []
    before = home
    for at, rule in enumerate(rules):
        if same is not None and same[at]:
            before = True
        elif at + 1 in made and at + 1 in others:
            before = _meets(rule, memos[at], before)
        elif at + 1 in made or at + 1 in others:
            before = False
        found.append(before)
    return tuple(found)
