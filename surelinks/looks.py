"""The calls 10 to 14, 18 and 19, which look at the sites and the wires. Each answers as those of changes.py do."""

from surelinks.limits import is_copy_number, is_message_count, is_message_number
from surelinks.packets import packet_of
from surelinks.refusals import packet_refusal, pair_refusal, sites_refusal


def received(network, number, sender, first, count):
    refusal = pair_refusal(network, number, sender, is_message_number(first) and is_message_count(count))
    if refusal != 0:
        return [refusal]
    messages = network.site(number).present.received[sender][first - 1:first - 1 + count]
    told = [0, len(messages)]
    for payload in messages:
        told.append(len(payload))
        told.extend(payload)
    return told


def link_state(network, number, other, copy_number):
    refusal = pair_refusal(network, number, other, is_copy_number(copy_number))
    if refusal != 0:
        return [refusal]
    state = network.site(number).present
    if copy_number == 1:
        state = network.site(number).durable
    return [0, len(state.sent[other]), state.acknowledged[other], len(state.received[other])]


def unsettled(network, sender, receiver):
    refusal = pair_refusal(network, sender, receiver, True)
    if refusal != 0:
        return [refusal]
    present = network.site(sender).present
    acknowledged = present.acknowledged[receiver]
    count = len(present.sent[receiver]) - acknowledged
    if count == 0:
        return [0, 0, 0]
    return [0, count, acknowledged + 1]


def list_packets(network):
    refusal = sites_refusal(network, [], True)
    if refusal != 0:
        return [refusal]
    told = [0, len(network.wires)]
    for carried in network.wires:
        told.extend(listed_fields(packet_of(carried.octets)))
    return told


def listed_fields(packet):
    if packet is None:
        return [0, 0, 0, 0]
    return [packet.kind, packet.sender, packet.receiver, packet.number]


def packet_bytes(network, index):
    refusal = packet_refusal(network, index, True)
    if refusal != 0:
        return [refusal]
    return [0] + network.wires[index].octets


def is_settled(network):
    refusal = sites_refusal(network, [], True)
    if refusal != 0:
        return [refusal]
    if len(network.wires) == 0 and all_durable(network) and all_arrived(network):
        return [0, 1]
    return [0, 0]


def all_durable(network):
    return all([site.present.equals(site.durable) for site in network.sites])


def all_arrived(network):
    for sender, receiver in network.pairs():
        present = network.site(sender).present
        count = len(present.sent[receiver])
        if len(network.site(receiver).present.received[sender]) != count or present.acknowledged[receiver] != count:
            return False
    return True


def totals(network):
    refusal = sites_refusal(network, [], True)
    if refusal != 0:
        return [refusal]
    posted = sum([site.present.sent_count() for site in network.sites])
    arrived = sum([site.present.received_count() for site in network.sites])
    return [0, len(network.sites), len(network.wires), network.duplicated, posted, arrived]


def answer_look(network, operation, numbers):
    if operation == 10:
        return received(network, numbers[0], numbers[1], numbers[2], numbers[3])
    if operation == 11:
        return link_state(network, numbers[0], numbers[1], numbers[2])
    if operation == 12:
        return unsettled(network, numbers[0], numbers[1])
    if operation == 13:
        return list_packets(network)
    if operation == 14:
        return packet_bytes(network, numbers[0])
    if operation == 18:
        return is_settled(network)
    return totals(network)
