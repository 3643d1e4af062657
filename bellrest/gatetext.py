"""The text of a gate, written from its parts and read into them."""

from bellrest.errors import InvalidText
from bellrest.names import is_name, is_simple
from bellrest.spans import is_limit_text, span_in_text, span_text


def text_of_parts(name, clocks, states, steps, also):
    """The text of the gate with these parts."""
    lines = [f"gate {name}", " ".join(["clocks", *clocks])]
    for state, stay in states:
        lines.append(" ".join(["state", state, *stay_words(stay)]))
    for step in steps:
        lines.append(" ".join(step_words(step)))
    if also:
        lines.append(" ".join(["also", *also]))
    return "\n".join([*lines, ""])


def stay_words(stay):
    """The words of a stay."""
    return [f"{clock}<={limit}" if reach == 1 else f"{clock}<{limit}" for clock, (limit, reach) in stay]


def step_words(step):
    """The words of a step."""
    source, deed, test, restarts, target = step
    words = ["step", source, deed, target]
    if test:
        words = words + ["when"] + [clock + span_text(span) for clock, span in test]
    return words + ["restart", *restarts] if restarts else words


def parts_of_text(text):
    """The parts of the gate with this text: name, clocks, states, steps and also."""
    lines = text.split("\n")
    # Every line ends with a newline: what follows the last newline is no line.
    rows = [line.split(" ") for line in lines[:-1]]
    names = read_rows(rows[:1], name_of_row)
    clocks = read_rows(rows[1:2], clocks_of_row)
    states = read_rows(rows[2:], state_of_row)
    for line, found in ((1, names), (2, clocks), (3, states)):
        if not found:
            raise InvalidText(line)
    at = 2 + len(states)
    steps = read_rows(rows[at:], step_of_row)
    at = at + len(steps)
    also = read_rows(rows[at:at + 1], also_of_row)
    at = at + len(also)
    if at < len(rows) or lines[-1] != "":
        raise InvalidText(at + 1)
    return names[0], clocks[0], tuple(states), tuple(steps), also[0] if also else ()


def read_rows(rows, reader):
    """What the reader makes of the rows of words, up to the first row for which it returns None."""
    found = []
    for words in rows:
        part = reader(words)
        if part is None:
            return found
        found.append(part)
    return found


def name_of_row(words):
    """The name in the row of a gate's name, or None."""
    return words[1] if len(words) == 2 and words[0] == "gate" and is_name(words[1]) else None


def clocks_of_row(words):
    """The clocks in the row of the clocks, or None."""
    return names_after("clocks", words)


def also_of_row(words):
    """The deeds in the row of further deeds, or None."""
    deeds = names_after("also", words)
    return deeds if deeds is not None and all(is_simple(deed) for deed in deeds) else None


def names_after(word, words):
    """The names behind the word, if it is the first one and at least one name follows, or None."""
    if len(words) < 2 or words[0] != word or not all(is_name(name) for name in words[1:]):
        return None
    return tuple(words[1:])


def state_of_row(words):
    """The state in a row, or None."""
    if len(words) < 2 or words[0] != "state" or not is_name(words[1]):
        return None
    stay = [stay_pair(word) for word in words[2:]]
    return None if None in stay else (words[1], tuple(stay))


def stay_pair(word):
    """The pair of a clock and an edge in a word, or None."""
    clock, _, limit = word.partition("<")
    reach = 1 if limit.startswith("=") else 0
    digits = limit[reach:]
    return (clock, (int(digits), reach)) if is_name(clock) and is_limit_text(digits) else None


def step_of_row(words):
    """The step in a row, or None."""
    if len(words) < 4 or words[0] != "step":
        return None
    source, deed, target = words[1:4]
    if not (is_name(source) and is_simple(deed) and is_name(target)):
        return None
    test, rest = test_and_rest(words[4:])
    restarts = () if rest == [] else names_after("restart", rest)
    return None if test is None or restarts is None else (source, deed, test, restarts, target)


def test_and_rest(words):
    """The test at the beginning of the words, or None if it is bent, and the words after it."""
    if words[:1] != ["when"]:
        return (), words
    # No test word is the word restart: each one contains a bracket.
    end = words.index("restart") if "restart" in words else len(words)
    test = [test_pair(word) for word in words[1:end]]
    if test == [] or None in test:
        return None, words[end:]
    return tuple(test), words[end:]


def test_pair(word):
    """The pair of a clock and a span in a word, or None."""
    at = bracket_place(word)
    span = span_in_text(word[at:])
    return (word[:at], span) if is_name(word[:at]) and span is not None else None


def bracket_place(word):
    """The place of the first opening bracket in the word, or its length."""
    for at, sign in enumerate(word):
        if sign in ("[", "("):
            return at
    return len(word)
