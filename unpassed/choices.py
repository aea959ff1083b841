"""Choices: what comes if at each state the cheapest, or the dearest, of some letters is written."""

from unpassed.turns import letter_turn


def choice_turn(table, letters, word):
    """The turn of the least, or of the greatest, heights to which any of letters leads ([H6]); word tells which."""
    turns = turns_told(table, letters)
    heights = [[turn[place] for turn in turns.values()] for place in range(len(table))]
    return tuple([min(row) if word == "least" else max(row) for row in heights])


def chosen_letters(table, letters, word):
    """For each place a letter that leads it as choice_turn does."""
    turns = turns_told(table, letters)
    told = []
    for place, height in enumerate(choice_turn(table, letters, word)):
        told.append([letter for letter in letters if turns[letter][place] == height][0])
    return tuple(told)


def turns_told(table, letters):
    """The turn of each of letters, by this letter; NoLetter is raised with the first one that table has not."""
    return {letter: letter_turn(table, letter) for letter in letters}
