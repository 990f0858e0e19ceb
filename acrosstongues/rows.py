"""How rows and senses stand in an answer: behind how many they are."""

from acrosstongues.texts import told_sense


def counted(row):
    return [len(row)] + row


def counted_sense(x):
    return counted(told_sense(x))


def counted_senses(told):
    answer = [len(told)]
    for x in told:
        answer.extend(counted_sense(x))
    return answer
