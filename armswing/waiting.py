"""Waiting: how many asks pass one over, and how many wait at most."""


def real_numbers(asks):
    return [number for number, ask in enumerate(asks) if ask.kind != "rest"]


def passed_over(asks, taken):
    passed = [None] * len(asks)
    real = real_numbers(asks)
    for number in real:
        passed[number] = len([other for other in real if other > number and taken[other] < taken[number]])
    return passed


def most_waiting(asks, taken):
    real = real_numbers(asks)
    most = 0
    for beat in [taken[number] for number in real]:
        most = max(most, len([number for number in real if asks[number].at <= beat and taken[number] >= beat]))
    return most
