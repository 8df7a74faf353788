"""The interface of the package: the calls of one request, answered in order."""

from surelinks.calls import split_calls
from surelinks.changes import answer_change
from surelinks.looks import answer_look
from surelinks.network import Network
from surelinks.packet_calls import answer_packet_call

# From create_sites to damage, and exchange.
CHANGES = (0, 1, 2, 3, 4, 5, 6, 7, 8, 9, 17)

# write_packet and read_packet.
PACKET_CALLS = (15, 16)


def answers(calls):
    network = Network()
    told = []
    for call in split_calls(calls):
        answer = answer_call(network, call)
        told.append(len(answer))
        told.extend(answer)
    return told


def answer_call(network, call):
    if call.operation in CHANGES:
        return answer_change(network, call.operation, call.numbers, call.row)
    if call.operation in PACKET_CALLS:
        return answer_packet_call(call.operation, call.numbers, call.row)
    return answer_look(network, call.operation, call.numbers)
