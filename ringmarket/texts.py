"""A market's text and legs' text, both rows of bytes: reading them, and writing legs."""

from ringmarket.refusals import WrongText

LETTERS = "abcdefghijklmnopqrstuvwxyz"
DIGITS = "0123456789"
MOST_LETTERS = 8
MOST_DIGITS = 9
MOST_OWNERS = 8
MOST_GOODS = 6
MOST_LEGS = 12


def sign_of(byte):
    """Bytes that may stand in no right word all become one sign that no word allows."""
    if ord("a") <= byte <= ord("z"):
        return LETTERS[byte - ord("a")]
    if ord("0") <= byte <= ord("9"):
        return DIGITS[byte - ord("0")]
    if byte == ord(" "):
        return " "
    if byte == ord("\n"):
        return "\n"
    return "?"


def words_of(line):
    """Only blanks part words, so a plain split without a sign would allow too much."""
    return [word for word in line.split(" ") if word != ""]


def pieces_of(row):
    """The lines without their ends, and behind them what isn't ended: in a right text, nothing."""
    return "".join([sign_of(byte) for byte in row]).split("\n")


def is_name(word):
    return 1 <= len(word) <= MOST_LETTERS and all([sign in LETTERS for sign in word])


def is_amount(word):
    """With no 0 in front, at most 9 digits are just the numbers from 1 to 999999999."""
    if not 1 <= len(word) <= MOST_DIGITS or word[0] == "0":
        return False
    return all([sign in DIGITS for sign in word])


def add_name(words, owners, goods):
    """Put the name that a market's line tells behind those of its sort."""
    if len(words) != 2 or not is_name(words[1]):
        raise WrongText()
    if words[1] in owners or words[1] in goods:
        raise WrongText()
    if words[0] == "owner" and len(owners) < MOST_OWNERS:
        owners.append(words[1])
    elif words[0] == "good" and len(goods) < MOST_GOODS:
        goods.append(words[1])
    else:
        raise WrongText()


def read_market(row):
    """The owners' names and the goods' names."""
    owners = []
    goods = []
    pieces = pieces_of(row)
    if pieces[-1] != "":
        raise WrongText()
    for line in pieces[:-1]:
        add_name(words_of(line), owners, goods)
    return (owners, goods)


def is_leg(words, owners, goods):
    if len(words) != 6 or words[1] != "gives" or words[4] != "to":
        return False
    if words[0] not in owners or words[5] not in owners or words[0] == words[5]:
        return False
    return is_amount(words[2]) and words[3] in goods


def wrong_line_of_legs(row, owners, goods):
    """The number of the line that tells what's wrong with legs' text, or None if it's right."""
    pieces = pieces_of(row)
    if pieces[-1] != "":
        return len(pieces)
    lines = pieces[:-1]
    if len(lines) == 0:
        return 1
    if len(lines) > MOST_LEGS:
        return MOST_LEGS + 1
    wrong = [number for number, line in enumerate(lines, start=1) if not is_leg(words_of(line), owners, goods)]
    return min(wrong, default=None)


def leg_of(words, owners, goods):
    """A right leg as giver, amount, good and taker; owners and goods by their numbers."""
    return (owners.index(words[0]), int(words[2]), goods.index(words[3]), owners.index(words[5]))


def read_legs(row, owners, goods):
    if wrong_line_of_legs(row, owners, goods) is not None:
        raise WrongText()
    return [leg_of(words_of(line), owners, goods) for line in pieces_of(row)[:-1]]


def text_of_leg(leg, owners, goods):
    """The one text of a leg."""
    return " ".join([owners[leg[0]], "gives", str(leg[1]), goods[leg[2]], "to", owners[leg[3]]])


def row_of(lines):
    """The bytes of these lines, each with its end behind."""
    return [ord(sign) for sign in "".join([line + "\n" for line in lines])]
