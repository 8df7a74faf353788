"""The calls 0 to 9 and 17, about changes of sites and wires. Each answers 0 and its fields, or an error code alone."""

from surelinks.exchanges import perform_exchange
from surelinks.limits import FEWEST_SITES, MOST_DUPLICATED, MOST_MESSAGES, MOST_SITES, is_octet, is_payload
from surelinks.refusals import LIMIT_REACHED, MESSAGE_ON_WIRES, NOT_POSSIBLE, OUTSIDE_LIMITS, SITES_ALREADY
from surelinks.refusals import packet_refusal, pair_refusal, sites_refusal
from surelinks.wires import has_message, deliver_packet, transmit_durable


def create_sites(network, count):
    if network.sites:
        return [SITES_ALREADY]
    if not FEWEST_SITES <= count <= MOST_SITES:
        return [OUTSIDE_LIMITS]
    network.add_sites(count)
    return [0, count]


def post(network, sender, receiver, payload):
    refusal = pair_refusal(network, sender, receiver, is_payload(payload))
    if refusal != 0:
        return [refusal]
    present = network.site(sender).present
    if present.sent_count() >= MOST_MESSAGES:
        return [LIMIT_REACHED]
    present.sent[receiver].append(payload)
    return [0, len(present.sent[receiver])]


def sync(network, number):
    refusal = sites_refusal(network, [number], True)
    if refusal != 0:
        return [refusal]
    return [0] + network.site(number).sync()


def crash(network, number):
    refusal = sites_refusal(network, [number], True)
    if refusal != 0:
        return [refusal]
    return [0] + network.site(number).crash()


def at_risk(network, number):
    refusal = sites_refusal(network, [number], True)
    if refusal != 0:
        return [refusal]
    return [0] + network.site(number).at_risk()


def transmit(network, sender, receiver):
    refusal = pair_refusal(network, sender, receiver, True)
    if refusal != 0:
        return [refusal]
    if has_message(network, sender, receiver):
        return [MESSAGE_ON_WIRES]
    return [0] + transmit_durable(network, sender, receiver)


def deliver(network, index):
    refusal = packet_refusal(network, index, True)
    if refusal != 0:
        return [refusal]
    return [0] + deliver_packet(network, index)


def lose(network, index):
    refusal = packet_refusal(network, index, True)
    if refusal != 0:
        return [refusal]
    network.wires.pop(index)
    return [0, len(network.wires)]


def duplicate(network, index):
    refusal = packet_refusal(network, index, True)
    if refusal != 0:
        return [refusal]
    if network.duplicated >= MOST_DUPLICATED:
        return [LIMIT_REACHED]
    network.wires.append(network.wires[index].twin())
    network.duplicated = network.duplicated + 1
    return [0, len(network.wires)]


def damage(network, index, position, value):
    refusal = packet_refusal(network, index, is_octet(value))
    if refusal != 0:
        return [refusal]
    carried = network.wires[index]
    if carried.damaged or not 0 <= position < len(carried.octets):
        return [NOT_POSSIBLE]
    old_value = carried.octets[position]
    if old_value == value:
        return [NOT_POSSIBLE]
    carried.octets[position] = value
    carried.damaged = True
    return [0, old_value]


def exchange(network):
    refusal = sites_refusal(network, [], True)
    if refusal != 0:
        return [refusal]
    return [0] + perform_exchange(network)


def answer_change(network, operation, numbers, row):
    if operation == 0:
        return create_sites(network, numbers[0])
    if operation == 1:
        return post(network, numbers[0], numbers[1], row)
    if operation == 2:
        return sync(network, numbers[0])
    if operation == 3:
        return crash(network, numbers[0])
    if operation == 4:
        return at_risk(network, numbers[0])
    if operation == 5:
        return transmit(network, numbers[0], numbers[1])
    if operation == 6:
        return deliver(network, numbers[0])
    if operation == 7:
        return lose(network, numbers[0])
    if operation == 8:
        return duplicate(network, numbers[0])
    if operation == 9:
        return damage(network, numbers[0], numbers[1], numbers[2])
    return exchange(network)
