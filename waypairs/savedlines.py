"""The lines of saved texts, one by one: their form, and whether they fit those before them."""

from waypairs.forms import is_count_word, is_number_word
from waypairs.webs import Web

MOST_LINES = 3900
NUMBER_DIGITS = 30
NOTHING = "-"


def _read_reference(word):
    """The number that a reference tells, or its pair (kind, key), or None if a word is no reference."""
    if word[:1] == "#":
        return int(word[1:]) if is_count_word(word[1:], NUMBER_DIGITS) else None
    kind, _, key = word.partition("@")
    return (kind, int(key)) if is_number_word(key, NUMBER_DIGITS) else None


def _read_references(mode, word):
    """The list of references of a link or list, or None if a word is no value of one."""
    if mode == "link":
        words = [] if word == NOTHING else [word]
    elif word[:1] != "[" or word[-1:] != "]":
        return None
    else:
        words = [] if word == "[]" else word[1:-1].split(",")
    found = [_read_reference(one) for one in words]
    return None if None in found or len(found) > Web.PLACES else found


def read_line(house, number, line):
    """The pair (kind, values) of a line, with a list of references for each link and list, or None if it is none."""
    words = line.split(" ")
    if len(words) < 2 or words[0] != str(number) or words[1] not in house:
        return None
    fields = house.fields_of(words[1])
    if len(words) != len(fields) + 2:
        return None
    values = {}
    for field, word in zip(fields, words[2:]):
        # A word without the sign has an empty value, which has no form.
        name, _, told = word.partition("=")
        if name != field.name:
            return None
        if field.mode != "mark":
            values[name] = _read_references(field.mode, told)
        else:
            values[name] = int(told) if is_number_word(told, NUMBER_DIGITS) else None
        if values[name] is None:
            return None
    return (words[1], values)


class SavedLines:
    """The lines of a saved text as far as they are read and right."""

    def __init__(self, house, known):
        # Pairs (kind, values) as `read_line` gives them.
        self.rows = []
        # The kinds and keys that are referred to by name, in the order of first mention.
        self.named = {}
        self._house = house
        self._known = known
        # The greatest number that is mentioned; all below it are, too.
        self._most = 0
        # The targets of the fields by which each number was referred to before its line.
        self._targets = {}

    def lacks_lines(self):
        """Whether a number is mentioned that has no line."""
        return self._most >= len(self.rows)

    def take(self, line):
        """Takes the next line; whether it is right."""
        number = len(self.rows)
        if number >= MOST_LINES or number > self._most:
            return False
        thing = read_line(self._house, number, line)
        if thing is None:
            return False
        targets = self._targets.get(number, [])
        if not all([self._house.admits(target, thing[0]) for target in targets]):
            return False
        self.rows.append(thing)
        return self._takes_references(thing)

    def _takes_references(self, thing):
        """Takes the references of a line; whether all are right."""
        kind, values = thing
        for field in self._house.fields_of(kind):
            if field.mode != "mark":
                for found in values[field.name]:
                    if not self._takes(field.target, found):
                        return False
        return True

    def _takes(self, target, found):
        """Takes a reference by a field with this target; whether it is right."""
        if isinstance(found, tuple):
            return self._takes_name(target, found)
        if found > self._most + 1:
            return False
        self._most = max(self._most, found)
        if found < len(self.rows):
            return self._house.admits(target, self.rows[found][0])
        targets = self._targets.setdefault(found, [])
        if target not in targets:
            targets.append(target)
        return True

    def _takes_name(self, target, found):
        """Takes a reference by name; whether it is right."""
        # The register has names of registered kinds of the house alone.
        if self._known is None or found not in self._known or not self._house.admits(target, found[0]):
            return False
        self.named[found] = True
        return True
