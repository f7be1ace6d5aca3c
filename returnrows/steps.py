"""Steps: every letter of a word is exchanged for its word, again and again.

A table tells one number for each letter: what its word behind some steps is worth in all.
In lists of tables, the index is the number of steps.
"""


def step(words, letters):
    """Return the word behind one step from a list of letters."""
    return [following for letter in letters for following in words[letter]]


def next_table(words, table):
    """Return the table of one step more."""
    # Most of many words have one letter alone, and a sum for each of these would take most of the time.
    return [table[word[0]] if len(word) == 1 else sum([table[letter] for letter in word]) for word in words]


def tables_beyond(words, first, place):
    """Return the tables from the first one on, until the number of the letter 0 is more than the place."""
    tables = [first]
    while tables[-1][0] <= place:
        tables.append(next_table(words, tables[-1]))
    return tables


def tables_of(words, first, many):
    """Return so many tables, from the first one on."""
    tables = [first]
    while len(tables) < many:
        tables.append(next_table(words, tables[-1]))
    return tables


def tables_down(lists, letters):
    """Return the tables of the lengths of the letters of levels, from a level with so many letters on.

    The lists are those of the returns of the levels, one below the other.
    """
    tables = [[1] * letters]
    for parts in lists:
        tables.append(next_table(parts, tables[-1]))
    return tables


def way_to(words, lengths, place):
    """Return the pairs (steps, letter) whose words one behind the other end at the place, and the letter there.

    The last of the tables of lengths reaches beyond the place, so the place lies in the word of 0.
    """
    passed = []
    letter = 0
    rest = place
    for steps in reversed(range(len(lengths) - 1)):
        word = words[letter]
        many, rest = _whole_ahead(word, lengths[steps], rest)
        passed.extend([(steps, earlier) for earlier in word[:many]])
        letter = word[many]
    return passed, letter


def worth(tables, passed):
    """Return what the words of some pairs (steps, letter) are worth in all."""
    return sum([tables[steps][letter] for steps, letter in passed])


def _whole_ahead(word, table, rest):
    """Return how many letters of the word lie whole within the rest, and what they leave of it."""
    many = 0
    while table[word[many]] <= rest:
        rest = rest - table[word[many]]
        many += 1
    return many, rest
