"""Lines of calls in the document's own writing: calls parted by |, a call's lists by ;"""

from measures.system import answers


def numbers_of(text):
    return [int(word) for word in text.split()]


def encode(line):
    """The list of whole numbers in which the calls of a line are handed in."""
    calls = []
    for call in line.split("|"):
        parts = call.split(";")
        calls.extend(numbers_of(parts[0]))
        for part in parts[1:]:
            numbers = numbers_of(part)
            calls.append(len(numbers))
            calls.extend(numbers)
    return calls


def decode(told):
    """The answers, a list of numbers for each call."""
    found = []
    place = 0
    while place < len(told):
        end = place + 1 + told[place]
        found.append(told[place + 1:end])
        place = end
    return found


def ask(line):
    """The answers to a line, a list of numbers for each call."""
    return decode(answers(encode(line)))


def last(line):
    """The answer to the last call of a line."""
    return ask(line)[-1]


def write(line):
    """The answers to a line in the document's own writing."""
    return "|".join(" ".join(str(number) for number in answer) for answer in ask(line))


def words(numbers):
    return " ".join(str(number) for number in numbers)


def call_text(call, numbers, lists):
    """A call in the document's own writing."""
    return ";".join([words([call] + list(numbers))] + [words(row) for row in lists])


def two_terms(call, left, right):
    """A call of equate, same or blame, as text."""
    return call_text(call, [], [left, right])


def split_rows(answer, base_count, count):
    """How many names an answer of solution or normal tells, and its rows, as many as count."""
    width = answer[0] + base_count
    return answer[0], [answer[1 + at * width:1 + (at + 1) * width] for at in range(count)]
