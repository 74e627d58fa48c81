"""Marks by which things can be told from each other."""


def fresh_marks(house, kinds):
    """For each thing of these kinds its marks: all different, and different from all defaults."""
    defaults = [field.default for kind in house.names for field in house.fields_of(kind)]
    marks = []
    number = 0
    for kind in kinds:
        values = {}
        for name in house.marks_of(kind):
            number += 1
            while number in defaults:
                number += 1
            values[name] = number
        marks.append(values)
    return marks
