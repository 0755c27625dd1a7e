"""What the tests of texts share: spoilt texts, and where a reader must refuse them."""

from anyprice.refusals import BadText


def spoilt_texts(chance, text, many, further):
    """Texts with a line or a word taken out, put in, exchanged, otherwise; without the last line feed; cut off."""
    found = []
    for _ in range(many):
        lines = [line.split(" ") for line in text.split("\n")[:-1]]
        if not lines:
            return [text + line + "\n" for line in further]
        at, other = chance.randrange(len(lines)), chance.randrange(len(lines))
        word = chance.randrange(len(lines[at]))
        kind = chance.choice(["out", "in", "swap", "word out", "word in", "word", "number", "blank", "cut", "feed", "words", "sign"])
        if kind == "out":
            del lines[at]
        elif kind == "in":
            lines.insert(at, chance.choice([list(lines[other]), chance.choice(further).split(" ")]))
        elif kind == "swap":
            lines[at], lines[other] = lines[other], lines[at]
        elif kind == "word out":
            del lines[at][word]
        elif kind == "word in":
            lines[at].insert(word, chance.choice(chance.choice(lines)))
        elif kind == "word":
            lines[at][word] = chance.choice(chance.choice(lines + [line.split(" ") for line in further]))
        elif kind == "number":
            lines[at][word] = chance.choice(["0" + lines[at][word], "-" + lines[at][word], "-0", "+1", "1.5", "00", "", "1_0", "\u0661"])
        elif kind == "blank":
            lines[at].insert(word, "")
        elif kind == "words":
            chance.shuffle(lines[at])
        elif kind == "sign":
            lines[at][word] = lines[at][word].upper() or " "
        told = "".join(" ".join(line) + "\n" for line in lines)
        if kind == "cut":
            told = told[:chance.randrange(len(told) + 1)]
        elif kind == "feed":
            told = told[:-1]
        found.append(told)
    return found


def wrong_line(text, is_begun, is_whole):
    """The line that BadText must tell, None for a right text: by what tells whether some lines begin one, or are one."""
    lines = text.split("\n")
    last = lines.pop()
    for number in range(1, len(lines) + 1):
        if not is_begun(lines[:number]):
            return number
    if last != "":
        return len(lines) + 1
    return None if is_whole(lines) else len(lines) + 1


def line_of(call):
    """The line that a reader refuses, None if it reads."""
    try:
        call()
    except BadText as error:
        return error.line
    return None
