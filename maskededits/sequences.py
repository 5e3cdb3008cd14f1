"""Rows of things that stand in the same order."""


def place_among(ends, number):
    """Returns how many of some rising numbers are smaller than a number."""
    low = 0
    high = len(ends)
    while low < high:
        middle = (low + high) // 2
        if ends[middle] < number:
            low = middle + 1
        else:
            high = middle
    return low


def longest_rising(numbers):
    """Returns a longest rising list of some different numbers, in the order in which they stand."""
    # For each length the smallest number in which a rising list of this length ends.
    ends = []
    before = {}
    for number in numbers:
        place = place_among(ends, number)
        before[number] = ends[place - 1] if place > 0 else None
        ends[place:place + 1] = [number]
    found = []
    number = ends[-1] if ends else None
    while number is not None:
        found.append(number)
        number = before[number]
    return found[::-1]


def longest_common(one, other):
    """Returns a longest list of things that stand in the same order in two rows of different things."""
    places = {thing: place for place, thing in enumerate(one)}
    return [one[place] for place in longest_rising([places[thing] for thing in other if thing in places])]
