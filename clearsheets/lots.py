"""What is put in lots of what is alike."""


def in_lots(found):
    """Return the numbers of the items in lots of equal items."""
    numbers = {}
    for number, item in enumerate(found):
        numbers.setdefault(item, []).append(number)
    return tuple(sorted([tuple(lot) for lot in numbers.values()]))
