"""Packets, and the octets that they are written as.

What the document calls bytes is called octets here, since the plain word is a name of Python's own.
"""

from surelinks.limits import LONGEST_PAYLOAD, is_message_count, is_message_number, is_site_number

MESSAGE = 1
ACKNOWLEDGEMENT = 2

CHECKSUM_FACTOR = 257
CHECKSUM_MODULUS = 1000000007
CHECKSUM_LENGTH = 4
MESSAGE_HEAD_LENGTH = 5
SHORTEST_LENGTH = 8


# The number of an acknowledgement is its up_to; its payload is empty, so that both kinds are handled alike.
class Packet:
    def __init__(self, kind, sender, receiver, number, payload):
        self.kind = kind
        self.sender = sender
        self.receiver = receiver
        self.number = number
        self.payload = payload


def checksum_of(octets):
    checksum = 0
    for octet in octets:
        checksum = (checksum * CHECKSUM_FACTOR + octet + 1) % CHECKSUM_MODULUS
    return checksum


def octets_of(packet):
    octets = [packet.kind, packet.sender, packet.receiver, packet.number]
    if packet.kind == MESSAGE:
        octets.append(len(packet.payload))
        octets.extend(packet.payload)
    checksum = checksum_of(octets)
    octets.append(checksum // 16777216)
    octets.append(checksum // 65536 % 256)
    octets.append(checksum // 256 % 256)
    octets.append(checksum % 256)
    return octets


# None stands for octets that are not readable.
def packet_of(octets):
    if len(octets) < SHORTEST_LENGTH:
        return None
    payload = []
    if octets[0] == MESSAGE:
        payload = octets[MESSAGE_HEAD_LENGTH:len(octets) - CHECKSUM_LENGTH]
    packet = Packet(octets[0], octets[1], octets[2], octets[3], payload)
    # Writing the packet again compares the length, the checksum and the end in one step.
    if not has_valid_fields(packet) or octets_of(packet) != octets:
        return None
    return packet


def has_valid_fields(packet):
    if not is_site_number(packet.sender) or not is_site_number(packet.receiver):
        return False
    if packet.sender == packet.receiver or len(packet.payload) > LONGEST_PAYLOAD:
        return False
    if packet.kind == MESSAGE:
        return is_message_number(packet.number)
    return packet.kind == ACKNOWLEDGEMENT and is_message_count(packet.number)
