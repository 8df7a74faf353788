"""The calls 15 and 16, which write and read packets. No site is looked at, so they are answered without sites, too."""

from surelinks.limits import LONGEST_READ, is_message_count, is_octet, is_payload, is_site_number
from surelinks.packets import ACKNOWLEDGEMENT, MESSAGE, Packet, octets_of, packet_of
from surelinks.refusals import NOT_POSSIBLE, OUTSIDE_LIMITS, SAME_SITE


def write_packet(kind, sender, receiver, number, payload):
    if kind not in (MESSAGE, ACKNOWLEDGEMENT) or not is_message_count(number) or not is_payload(payload):
        return [OUTSIDE_LIMITS]
    if not is_site_number(sender) or not is_site_number(receiver):
        return [OUTSIDE_LIMITS]
    if sender == receiver:
        return [SAME_SITE]
    if kind == MESSAGE and number == 0:
        return [NOT_POSSIBLE]
    if kind == ACKNOWLEDGEMENT and len(payload) > 0:
        return [NOT_POSSIBLE]
    return [0] + octets_of(Packet(kind, sender, receiver, number, payload))


def read_packet(octets):
    if len(octets) > LONGEST_READ or not all([is_octet(octet) for octet in octets]):
        return [OUTSIDE_LIMITS]
    packet = packet_of(octets)
    if packet is None:
        return [0, 0]
    return [0, 1, packet.kind, packet.sender, packet.receiver, packet.number] + packet.payload


def answer_packet_call(operation, numbers, row):
    if operation == 15:
        return write_packet(numbers[0], numbers[1], numbers[2], numbers[3], row)
    return read_packet(row)
