"""A desk, which is told rows, and answers them by a ground room and a book."""

from windfleet.books import Book
from windfleet.errors import NoText
from windfleet.flighttexts import read_flight
from windfleet.grounds import Ground
from windfleet.kinds import are_rising
from windfleet.lands import is_room
from windfleet.landtexts import numbers_in, read_land
from windfleet.windtexts import read_winds

LETTERS = "abcdefghijklmnopqrstuvwxyz"
LONGEST_NAME = 8


def words_of(thing):
    """The words of a row, one at least, by one blank each; NoText of anything else."""
    # A line end would pass for the ` ; ` that a row has in its place.
    if not isinstance(thing, str) or "\n" in thing:
        raise NoText(0)
    words = thing.split(" ")
    if "" in words:
        raise NoText(0)
    return words


def text_of(words):
    """The text of lines that a row's words tell."""
    return " ".join(words).replace(" ; ", "\n")


def numbers_of(words, many):
    """The numbers that the words tell, just so many."""
    numbers = numbers_in(words, many)
    if numbers is None:
        raise NoText(0)
    return numbers


def groups_of(words, many):
    """Perhaps no groups, each of so many numbers, a word `,` between two."""
    if not words:
        return ()
    return tuple([numbers_of(group.split(" "), many) for group in " ".join(words).split(" , ")])


def name_of(words):
    """The name that the first one of the words tells."""
    if not words or len(words[0]) > LONGEST_NAME or not all([sign in LETTERS for sign in words[0]]):
        raise NoText(0)
    return words[0]


def let_or_not(let):
    """The answer that tells whether the fleet is let by."""
    return "let" if let else "not let"


def answer_fly(desk, words):
    """The answer to fly TEXT."""
    number = desk.ground.fly(read_flight(desk.ground.land, text_of(words)))
    return f"number {number}"


def answer_winds(desk, words):
    """The answer to winds TEXT."""
    return let_or_not(desk.ground.tell(read_winds(desk.ground.land, text_of(words))))


def answer_home(desk, words):
    """The answer to home K."""
    number = numbers_of(words, 1)[0]
    return let_or_not(desk.ground.call_home(number))


def answer_go(desk, words):
    """The answer to go and the winds that are told of this beat."""
    told = groups_of(words, 4)
    if not are_rising([numbers[:2] for numbers in told]):
        raise NoText(0)
    beat = desk.ground.beat()
    broken = desk.ground.go(tuple([((x, y, beat), (wx, wy)) for x, y, wx, wy in told]))
    return "".join(["gone"] + [f" ; {number} {word}" for number, word in broken])


def answer_rest(desk, words):
    """The answer to rest K."""
    number = numbers_of(words, 1)[0]
    desk.ground.rest(number)
    return "ok"


def answer_where(desk, words):
    """The answer to where K."""
    number = numbers_of(words, 1)[0]
    return " ".join([str(part) for part in desk.ground.flight(number)[1]])


def answer_book(desk, words):
    """The answer to book NAME and rooms."""
    name = name_of(words)
    rooms = groups_of(words[1:], 6)
    if not all([is_room(desk.ground.land, room) for room in rooms]):
        raise NoText(0)
    desk.ledger.book(name, rooms)
    return "ok"


def answer_back(desk, words):
    """The answer to back NAME."""
    name = name_of(words)
    if len(words) > 1:
        raise NoText(0)
    desk.ledger.give_back(name)
    return "ok"


def answer_who(desk, words):
    """The answer to who X Y BEAT."""
    x, y, beat = numbers_of(words, 3)
    name = desk.ledger.who(x, y, beat)
    return "no one" if name is None else name


def answer_word(desk, words):
    """The answer to word: what is told of the fleet, by the numbers of those in the air."""
    if words:
        raise NoText(0)
    told = desk.ground.word()
    if told is None:
        return "none"
    numbers = desk.ground.numbers()
    if told[0] == "flight":
        return f"flight {numbers[told[1]]}"
    if told[0] == "pair":
        return f"pair {numbers[told[1]]} {numbers[told[2]]}"
    return f"pad {told[1]}" if told[0] == "pad" else "let"


ANSWERS = {
    "fly": answer_fly,
    "winds": answer_winds,
    "home": answer_home,
    "go": answer_go,
    "rest": answer_rest,
    "where": answer_where,
    "book": answer_book,
    "back": answer_back,
    "who": answer_who,
    "word": answer_word,
}


class Desk:
    """A desk: a ground room and a book of the land that it was told last."""

    def __init__(self):
        self.ground = None
        self.ledger = None

    def say(self, row):
        """The answer to a row."""
        words = words_of(row)
        try:
            if words[0] == "land":
                return self.begin_land(words)
            if self.ground is None or words[0] not in ANSWERS:
                raise NoText(0)
            answer = ANSWERS[words[0]]
            return answer(self, words[1:])
        except NoText:
            # Whatever line of a text it is, it is this one row that is none.
            raise NoText(0) from None

    def begin_land(self, words):
        """The answer to a land's TEXT: a new ground room and a new book."""
        land = read_land(text_of(words))
        self.ground = Ground(land)
        self.ledger = Book(land)
        return "ok"
