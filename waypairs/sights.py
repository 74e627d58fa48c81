"""What a see line tells of a thing."""


def told_sight(kind, fields, values):
    """The tuple (kind, marks, slots) of a thing with these fields and their values."""
    marks = []
    slots = []
    for field, value in zip(fields, values):
        if field.mode == "mark":
            marks.append(value)
        elif field.mode == "link":
            slots.append(value is not None)
        else:
            slots.append(len(value))
    return (kind, marks, slots)
