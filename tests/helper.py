"""How the tests put calls into one list, and take the answers apart."""

from fractions import Fraction

from searchefforts.field import answers

NUMBER_OF = {
    "field": 0, "where": 1, "shown": 2, "vain": 3, "back": 4,
    "evidence": 5, "chances": 6, "left": 7, "would": 8, "best": 9,
    "curve": 10, "price": 11, "thrift": 12, "order": 13, "takes": 14,
    "teams": 15, "can": 16, "cells": 17, "counts": 18, "clear": 19,
}


def to_bytes(text):
    return list(text.encode("latin-1")) if isinstance(text, str) else list(text)


def flat(calls):
    """One list of whole numbers for calls like ("evidence", 2, 1, [0]) or ("field", "parts 2; ..")."""
    numbers = []
    for name, *given in calls:
        numbers.append(NUMBER_OF[name])
        for value in given:
            if isinstance(value, int):
                numbers.append(value)
            else:
                row = to_bytes(value)
                numbers += [len(row)] + row
    return numbers


def split(given):
    apart = []
    at = 0
    while at < len(given):
        end = at + 1 + given[at]
        apart.append(given[at + 1:end])
        at = end
    assert at == len(given), "the last answer is shorter than told"
    return apart


def ask(*calls):
    """The answers to the calls, a list each."""
    apart = split(answers(flat(calls)))
    assert len(apart) == len(calls), "not one answer for each call"
    return apart


def last(*calls):
    return ask(*calls)[-1]


def each(*calls, before):
    """The answers to any number of calls, each time behind the same ones, in as many lines as they take."""
    given = []
    for start in range(0, len(calls), 100):
        given += ask(*before, *calls[start:start + 100])[len(before):]
    return given


def fractions(numbers):
    return [Fraction(upper, lower) for upper, lower in zip(numbers[::2], numbers[1::2], strict=True)]


def pairs(values):
    return [number for value in values for number in Fraction(value).as_integer_ratio()]


def cell(name, weight=1, finds=1, time=1):
    return f"cell {name} weight {weight} finds {finds} time {time};\n"


def names(many):
    return ["abcdefghijklmnopqrst"[number] for number in range(many)]


def cells(many):
    return "".join([cell(name) for name in names(many)])
