"""What one comes to from a number, where it is known which numbers stand beside which."""


def reached(beside, start):
    """Whether one comes to each number from the start: a list of True and False."""
    told = [False] * len(beside)
    told[start] = True
    waiting = [start]
    while waiting:
        for other in beside[waiting.pop()]:
            if not told[other]:
                told[other] = True
                waiting.append(other)
    return told
