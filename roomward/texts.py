"""Texts: a house told in rows of words, written and read."""

from roomward.deeds import FIGURES, Deeds
from roomward.errors import NoRule, NoText, WardError
from roomward.houses import House
from roomward.machines import Machine
from roomward.rules import Ahead, Answer, Hold, Most, Never, Turns

MOST_SIGNS = 6000
# How many words a row has, by its first one, and one of a rule by its second one.
MANY_WORDS = {"deed": 2, "free": 2, "machine": 2, "end": 2, "door": 4, "knows": 2}
MANY_RULE_WORDS = {"never": 3, "most": 4, "ahead": 4, "turns": 4, "hold": 4, "answer": 4}
# In which part of a text a row stands: that of the deeds, that of the machines, that of the rules.
PARTS = {"deed": 0, "free": 0, "machine": 1, "end": 1, "door": 1, "knows": 1, "rule": 2}


def deed_rows(deeds):
    """The rows of deeds."""
    return [["free" if deeds.is_free(name) else "deed", name] for name in deeds.names()]


def machine_rows(machine):
    """The rows of a machine."""
    rows = [["machine", machine.begin()]]
    rows.extend([["end", room] for room in machine.ends()])
    led = {}
    for room in machine.rooms():
        for deed in machine.at(room):
            rows.append(["door", room, deed, machine.to(room, deed)])
            led[deed] = True
    rows.extend([["knows", deed] for deed in machine.knows() if deed not in led])
    return rows


def two_word(rule):
    """The word of a rule about two deeds."""
    if isinstance(rule, Ahead):
        return "ahead"
    if isinstance(rule, Turns):
        return "turns"
    if isinstance(rule, Hold):
        return "hold"
    if isinstance(rule, Answer):
        return "answer"
    raise NoRule("no text tells of such a rule")


def rule_row(rule):
    """The row of a rule."""
    if isinstance(rule, Never):
        return ["rule", "never", rule.deed]
    if isinstance(rule, Most):
        return ["rule", "most", rule.deed, str(rule.many)]
    return ["rule", two_word(rule), rule.one, rule.other]


def written(deeds, plant, rules):
    """The text that tells deeds, machines and rules."""
    rows = deed_rows(deeds)
    for machine in plant:
        rows.extend(machine_rows(machine))
    rows.extend([rule_row(rule) for rule in rules])
    return "".join([" ".join(words) + "\n" for words in rows])


def is_text(thing):
    """Tell of anything whether it is a text that isn't too long, of signs from the blank to ~ and line ends."""
    if not isinstance(thing, str) or len(thing) > MOST_SIGNS:
        return False
    return all([" " <= sign <= "~" or sign == "\n" for sign in thing])


def is_rule_form(words):
    """Tell whether the words of a row that begins with rule are of a told form."""
    if len(words) == 1 or MANY_RULE_WORDS.get(words[1]) != len(words):
        return False
    return words[1] != "most" or (len(words[3]) == 1 and words[3] in FIGURES)


def is_form(words):
    """Tell whether the words of a row are of a told form."""
    return is_rule_form(words) if words[0] == "rule" else MANY_WORDS.get(words[0]) == len(words)


def may_stand(word, ahead):
    """Tell whether a row of a first word may stand behind rows of a part of a text, ahead."""
    if word == "end" or word == "door" or word == "knows":
        return ahead == 1
    return PARTS[word] >= ahead


def told_rows(text):
    """The list of the rows of a text that count, each the list of its words; refused with the first wrong one."""
    rows = []
    ahead = 0
    for number, row in enumerate(text.split("\n"), start=1):
        words = row.split()
        if words and not words[0].startswith("#"):
            if not is_form(words) or not may_stand(words[0], ahead):
                raise NoText(number)
            ahead = PARTS[words[0]]
            rows.append(words)
    return rows


def second_words(rows, first):
    """The list of the second words of the rows that begin with a word."""
    return [words[1] for words in rows if words[0] == first]


def told_deeds(rows):
    """The Deeds that rows tell."""
    free = second_words(rows, "free")
    return Deeds(second_words(rows, "deed") + free, free)


def told_machine(deeds, rows):
    """The Machine that its own rows tell."""
    doors = [tuple(words[1:]) for words in rows if words[0] == "door"]
    return Machine(deeds, rows[0][1], second_words(rows, "end"), doors, second_words(rows, "knows"))


def told_plant(deeds, rows):
    """The list of the Machines that rows tell."""
    groups = []
    for words in rows:
        if words[0] == "machine":
            groups.append([])
        if PARTS[words[0]] == 1:
            groups[-1].append(words)
    return [told_machine(deeds, group) for group in groups]


def told_rule(words):
    """The Rule that the words of its row tell."""
    word = words[1]
    if word == "never":
        return Never(words[2])
    if word == "most":
        return Most(words[2], int(words[3]))
    if word == "ahead":
        return Ahead(words[2], words[3])
    if word == "turns":
        return Turns(words[2], words[3])
    return Hold(words[2], words[3]) if word == "hold" else Answer(words[2], words[3])


def told_house(rows):
    """The triple of the Deeds, the list of Machines and the list of Rules that rows tell; refused as a house is."""
    deeds = told_deeds(rows)
    plant = told_plant(deeds, rows)
    rules = [told_rule(words) for words in rows if words[0] == "rule"]
    # The house isn't kept: it is made to see whether it is refused.
    House(deeds, plant, rules)
    return (deeds, plant, rules)


def read(text):
    """The triple of the Deeds, the list of Machines and the list of Rules that a text tells."""
    if not is_text(text):
        raise NoText(0)
    rows = told_rows(text)
    try:
        return told_house(rows)
    except WardError:
        raise NoText(0) from None
