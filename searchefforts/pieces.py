"""How a text, a list of bytes, is cut into pieces."""

WORD = "word"
NUMBER = "number"
STOP = "stop"
BAD = "bad"
END = "end"

LETTERS = "abcdefghijklmnopqrstuvwxyz"
FIRST_LETTER = 97
LAST_LETTER = 122
FIRST_DIGIT = 48
LAST_DIGIT = 57
SEMICOLON = 59
BLANKS = (32, 10)

LONGEST_WORD = 8
LONGEST_NUMBER = 4


class Piece:
    def __init__(self, kind, value, place):
        self.kind = kind
        self.value = value
        self.place = place


def run_end(text, start, low, high):
    end = start
    while end < len(text) and low <= text[end] <= high:
        end += 1
    return end


def word_piece(text, start, end):
    if end - start > LONGEST_WORD:
        return Piece(BAD, None, start)
    letters = [LETTERS[byte - FIRST_LETTER] for byte in text[start:end]]
    return Piece(WORD, "".join(letters), start)


def number_piece(text, start, end):
    length = end - start
    if length > LONGEST_NUMBER or (length > 1 and text[start] == FIRST_DIGIT):
        return Piece(BAD, None, start)
    number = 0
    for byte in text[start:end]:
        number = number * 10 + byte - FIRST_DIGIT
    return Piece(NUMBER, number, start)


def piece_end(text, start):
    # A run is taken whole even when it's too long: so it's wrong at its first byte, not behind its eighth.
    word_end = run_end(text, start, FIRST_LETTER, LAST_LETTER)
    number_end = run_end(text, start, FIRST_DIGIT, LAST_DIGIT)
    return max(word_end, number_end, start + 1)


def piece_at(text, start, end):
    byte = text[start]
    if FIRST_LETTER <= byte <= LAST_LETTER:
        return word_piece(text, start, end)
    if FIRST_DIGIT <= byte <= LAST_DIGIT:
        return number_piece(text, start, end)
    if byte == SEMICOLON:
        return Piece(STOP, None, start)
    return Piece(BAD, None, start)


# An END stands behind the last piece, since a text that ends too early is wrong at its length.
def cut(text):
    pieces = []
    at = 0
    while at < len(text):
        end = piece_end(text, at)
        if text[at] not in BLANKS:
            pieces.append(piece_at(text, at, end))
        at = end
    pieces.append(Piece(END, None, len(text)))
    return pieces
