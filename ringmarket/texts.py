"""Reading a market's text and legs' text, both given as rows of bytes."""

from ringmarket.refusals import WrongText

LETTERS = "abcdefghijklmnopqrstuvwxyz"
DIGITS = "0123456789"
MOST_LETTERS = 8
MOST_DIGITS = 9
MOST_OWNERS = 8
MOST_GOODS = 6
MOST_LEGS = 12


def sign_of(byte):
    """Bytes that may stand in no right word all become one sign that no word allows."""
    if ord("a") <= byte <= ord("z"):
        return LETTERS[byte - ord("a")]
    if ord("0") <= byte <= ord("9"):
        return DIGITS[byte - ord("0")]
    if byte == ord(" "):
        return " "
    if byte == ord("\n"):
        return "\n"
    return "?"


def words_of(line):
    """Only blanks part words, so a plain split without a sign would allow too much."""
    return [word for word in line.split(" ") if word != ""]


def lines_of(row):
    """The words of each line."""
    text = "".join([sign_of(byte) for byte in row])
    if text == "":
        return []
    if not text.endswith("\n"):
        raise WrongText()
    return [words_of(line) for line in text[:-1].split("\n")]


def is_name(word):
    return 1 <= len(word) <= MOST_LETTERS and all([sign in LETTERS for sign in word])


def is_amount(word):
    """With no 0 in front, at most 9 digits are just the numbers from 1 to 999999999."""
    if not 1 <= len(word) <= MOST_DIGITS or word[0] == "0":
        return False
    return all([sign in DIGITS for sign in word])


def add_name(words, owners, goods):
    """Put the name that a market's line tells behind those of its sort."""
    if len(words) != 2 or not is_name(words[1]):
        raise WrongText()
    if words[1] in owners or words[1] in goods:
        raise WrongText()
    if words[0] == "owner" and len(owners) < MOST_OWNERS:
        owners.append(words[1])
    elif words[0] == "good" and len(goods) < MOST_GOODS:
        goods.append(words[1])
    else:
        raise WrongText()


def read_market(row):
    """The owners' names and the goods' names."""
    owners = []
    goods = []
    for words in lines_of(row):
        add_name(words, owners, goods)
    return (owners, goods)


def is_leg(words, owners, goods):
    if len(words) != 6 or words[1] != "gives" or words[4] != "to":
        return False
    if words[0] not in owners or words[5] not in owners or words[0] == words[5]:
        return False
    return is_amount(words[2]) and words[3] in goods


def read_leg(words, owners, goods):
    if not is_leg(words, owners, goods):
        raise WrongText()
    return (owners.index(words[0]), int(words[2]), goods.index(words[3]), owners.index(words[5]))


def read_legs(row, owners, goods):
    """The legs, each as giver, amount, good and taker; owners and goods by their numbers."""
    lines = lines_of(row)
    if not 1 <= len(lines) <= MOST_LEGS:
        raise WrongText()
    return [read_leg(words, owners, goods) for words in lines]
