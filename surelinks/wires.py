"""What the wires carry: putting packets on them, and delivering those to the sites."""

from surelinks.network import WirePacket
from surelinks.packets import ACKNOWLEDGEMENT, MESSAGE, Packet, octets_of, packet_of

NOT_READABLE = 0
MESSAGE_RECEIVED = 1
MESSAGE_RECEIVED_BEFORE = 2
EARLIER_MESSAGE_MISSING = 3
ACKNOWLEDGED_INCREASES = 4
ACKNOWLEDGED_STAYS = 5


def put_on_wires(network, packet):
    network.wires.append(WirePacket(octets_of(packet), False))


def transmit_durable(network, sender, receiver):
    durable = network.site(sender).durable
    sent = durable.sent[receiver]
    acknowledged = durable.acknowledged[receiver]
    up_to = len(durable.received[receiver])
    for place in range(acknowledged, len(sent)):
        put_on_wires(network, Packet(MESSAGE, sender, receiver, place + 1, sent[place]))
    put_on_wires(network, Packet(ACKNOWLEDGEMENT, sender, receiver, up_to, []))
    return [len(sent) - acknowledged, up_to]


def has_message(network, sender, receiver):
    for carried in network.wires:
        packet = packet_of(carried.octets)
        if packet is not None and packet.kind == MESSAGE:
            if packet.sender == sender and packet.receiver == receiver:
                return True
    return False


def deliver_packet(network, index):
    packet = packet_of(network.wires.pop(index).octets)
    if packet is None:
        return [NOT_READABLE]
    present = network.site(packet.receiver).present
    if packet.kind == MESSAGE:
        outcome = take_message(present, packet)
    else:
        outcome = take_acknowledgement(present, packet)
    return [outcome, packet.sender, packet.receiver, packet.number]


def take_message(present, packet):
    received = present.received[packet.sender]
    if packet.number <= len(received):
        return MESSAGE_RECEIVED_BEFORE
    if packet.number > len(received) + 1:
        return EARLIER_MESSAGE_MISSING
    received.append(packet.payload)
    return MESSAGE_RECEIVED


def take_acknowledgement(present, packet):
    if packet.number <= present.acknowledged[packet.sender]:
        return ACKNOWLEDGED_STAYS
    present.acknowledged[packet.sender] = packet.number
    return ACKNOWLEDGED_INCREASES
