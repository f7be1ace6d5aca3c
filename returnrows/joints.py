"""Joints: two rows are cut into returns with one list of returns for both.

With this list, the rows of the numbers of their returns part in the very return in which the two rows do.
So the way down ends at a level where already the first returns are unlike, and on the way up from there
the place is told by the lengths of what lies ahead.
"""

from returnrows.splits import found_returns
from returnrows.steps import tables_down


def first_parting(first, second, number):
    """Return the place and the two letters at which the rows of two descents part.

    They do so, and the lists of returns of the levels ahead of the number are the same.
    """
    joints = [first.parts(above) for above in range(number)]
    found, rules = found_returns(first.words(number))
    other_found, other_rules = found_returns(second.words(number))
    while found[0] == other_found[0]:
        joint, other_rules = _joined(found, other_found, other_rules)
        joints.append(joint)
        found, rules = found_returns(rules)
        other_found, other_rules = found_returns(other_rules)
    letters = max(len(first.words(0)), len(second.words(0)))
    return _way_up(joints, tables_down(joints, letters), found[0], other_found[0])


def _joined(found, other_found, other_rules):
    """Return the list of the returns of both rows, and the other rules by their numbers in this list.

    A number of returns that the other row does not have gets an empty word.
    """
    joint = list(found)
    numbers = {part: number for number, part in enumerate(found)}
    for part in other_found:
        if part not in numbers:
            numbers[part] = len(joint)
            joint.append(part)
    renamed = [numbers[part] for part in other_found]
    words = [[] for part in joint]
    for number, word in zip(renamed, other_rules):
        words[number] = [renamed[index] for index in word]
    return joint, words


def _way_up(joints, lengths, part, other_part):
    """Return the place and the two letters at which the rows part.

    The level below all joints begins with these two returns.
    """
    place, letter, other_letter = _unlike(part, other_part, lengths[-1])
    for number in reversed(range(len(joints))):
        joint = joints[number]
        more, letter, other_letter = _unlike(joint[letter], joint[other_letter], lengths[number])
        place += more
    return place, letter, other_letter


def _unlike(part, other_part, table):
    """Return the length of the begin that two unlike returns share, and the two letters behind it.

    Behind a return stands a 0, which a return has at its begin alone.
    """
    letters, other_letters = part + (0,), other_part + (0,)
    many = 0
    while letters[many] == other_letters[many]:
        many += 1
    return sum([table[letter] for letter in letters[:many]]), letters[many], other_letters[many]
