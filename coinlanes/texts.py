"""States, steps and letters, written and read."""

from coinlanes.errors import NoLetter, NoState, NoStep, NoText
from coinlanes.letters import is_letter
from coinlanes.states import is_state, is_step

MOST_FIGURES = 15


def show_state(state):
    """Tell the writing of a state. NoState."""
    if not is_state(state):
        raise NoState("a state is a tuple (lane, number, left, right, locks)")
    return in_words([*state[:4], *[with_colons(lock) for lock in state[4]]])


def show_step(step):
    """Tell the writing of a step. NoStep."""
    if not is_step(step):
        raise NoStep("a step is a tuple: a pay, a lock, a fold, a drop or a pass")
    return in_words(step)


def show_letter(letter):
    """Tell the writing of a letter. NoLetter."""
    if not is_letter(letter):
        raise NoLetter("a letter is a tuple: a next, a done or a turn")
    if letter[0] != "next":
        return in_words(letter)
    word, lane, number, step, more = letter
    return in_words([word, lane, number, show_step(step), *[f"> {with_colons(hop)}" for hop in more]])


def read_state(text):
    """Tell the state that is written so. NoText."""
    words = words_of(text)
    state = (*[number_of(word) for word in words[:4]], tuple([lock_in(word) for word in words[4:]]))
    if not is_state(state):
        raise NoText("no state is written so")
    return state


def read_step(text):
    """Tell the step that is written so. NoText."""
    return step_in(words_of(text))


def read_letter(text):
    """Tell the letter that is written so. NoText."""
    words = words_of(text)
    if words[0] == "next":
        letter = next_in(words)
    else:
        letter = (words[0], *[number_of(word) for word in words[1:]])
    if not is_letter(letter):
        raise NoText("no letter is written so")
    return letter


def in_words(parts):
    """Tell the parts with blanks between."""
    return " ".join([str(part) for part in parts])


def with_colons(parts):
    """Tell the parts with colons between."""
    return ":".join([str(part) for part in parts])


def is_figures(word):
    """Tell whether a word writes a number of at most fifteen figures."""
    if not 1 <= len(word) <= MOST_FIGURES or not all(["0" <= sign <= "9" for sign in word]):
        return False
    return word == "0" or word[0] != "0"


def words_of(text):
    """Tell the words of a text, parted by blanks; where two stand together an empty one is between. NoText."""
    if not isinstance(text, str):
        raise NoText("this is no text")
    return text.split(" ")


def number_of(word):
    """Tell the number that a word writes. NoText."""
    if not is_figures(word):
        raise NoText("a number has one to fifteen figures, the first of several no 0")
    return int(word)


def side_or_number(word):
    """Tell the side or the number that a word writes. NoText."""
    return word if word in ("left", "right") else number_of(word)


def lock_in(word):
    """Tell the parts of a lock that a word writes, whatever it may be. NoText."""
    return tuple([side_or_number(part) for part in word.split(":")])


def hop_in(word):
    """Tell the parts of a hop that a word writes, whatever it may be. NoText."""
    return tuple([number_of(part) for part in word.split(":")])


def step_in(words):
    """Tell the step that these words write. NoText."""
    step = (words[0], *[side_or_number(word) for word in words[1:]])
    if not is_step(step):
        raise NoText("no step is written so")
    return step


def next_in(words):
    """Tell what words that begin with next write, if they write a letter. NoText."""
    end = words.index(">") if ">" in words else len(words)
    if end < 4 or any([word != ">" for word in words[end::2]]) or (len(words) - end) & 1:
        raise NoText("no letter is written so")
    more = tuple([hop_in(word) for word in words[end + 1::2]])
    return ("next", number_of(words[1]), number_of(words[2]), step_in(words[3:end]), more)
