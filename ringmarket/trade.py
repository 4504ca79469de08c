"""The interface: a list of calls in, the list of their answers out."""

from ringmarket.answering import CALLS
from ringmarket.refusals import NoPlace, NoSuchDeal, NotSo, OutOfRange, WrongText
from ringmarket.state import Market


def answer_or_refusal(market, call, numbers, text):
    """The numbers that one call answers."""
    try:
        return CALLS[call][0](market, numbers, text)
    except OutOfRange:
        return [-1]
    except WrongText:
        return [-2]
    except NoSuchDeal:
        return [-3]
    except NotSo:
        return [-4]
    except NoPlace:
        return [-5]


def answers(calls):
    """For each call how many numbers are answered, and these."""
    market = Market()
    told = []
    place = 0
    while place < len(calls):
        call = calls[place]
        text_at = place + 1 + CALLS[call][1]
        numbers = calls[place + 1:text_at]
        text = []
        place = text_at
        if CALLS[call][2] == 1:
            place = text_at + 1 + calls[text_at]
            text = calls[text_at + 1:place]
        answer = answer_or_refusal(market, call, numbers, text)
        told.append(len(answer))
        told.extend(answer)
    return told
