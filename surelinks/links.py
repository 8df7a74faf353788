"""The interface of the package: the calls of one request, answered in order."""

from surelinks.calls import split_calls
from surelinks.changes import answer_change
from surelinks.network import Network

CHANGE_COUNT = 10


def answers(calls):
    network = Network()
    told = []
    for call in split_calls(calls):
        answer = answer_call(network, call)
        told.append(len(answer))
        told.extend(answer)
    return told


def answer_call(network, call):
    if call.operation < CHANGE_COUNT:
        return answer_change(network, call.operation, call.numbers, call.row)
    # The calls 10 to 19 are read, so that those behind them are found, but not performed yet.
    return []
