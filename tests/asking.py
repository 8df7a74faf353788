"""Calls written as the document writes them, and their answers taken apart."""

from surelinks.links import answers

LARGE = 10 ** 18


def create_sites(count):
    return [0, count]


def post(sender, receiver, payload):
    return [1, sender, receiver, len(payload)] + payload


def sync(site):
    return [2, site]


def crash(site):
    return [3, site]


def at_risk(site):
    return [4, site]


def transmit(sender, receiver):
    return [5, sender, receiver]


def deliver(index):
    return [6, index]


def lose(index):
    return [7, index]


def duplicate(index):
    return [8, index]


def damage(index, position, value):
    return [9, index, position, value]


def received(site, sender, first, count):
    return [10, site, sender, first, count]


def link_state(site, other, copy):
    return [11, site, other, copy]


def unsettled(sender, receiver):
    return [12, sender, receiver]


def list_packets():
    return [13]


def packet_bytes(index):
    return [14, index]


def write_packet(kind, sender, receiver, number, payload):
    return [15, kind, sender, receiver, number, len(payload)] + payload


def read_packet(octets):
    return [16, len(octets)] + octets


def exchange():
    return [17]


def is_settled():
    return [18]


def totals():
    return [19]


def joined(calls):
    """The calls of a request as the one list that is handed in."""
    return [number for call in calls for number in call]


def parted(told):
    """The answers of a request, one list a call."""
    parts = []
    place = 0
    while place < len(told):
        end = place + 1 + told[place]
        parts.append(told[place + 1:end])
        place = end
    return parts


def ask(calls):
    """The answers to all calls of a request."""
    assert 1 <= len(calls) <= 200
    parts = parted(answers(joined(calls)))
    assert len(parts) == len(calls)
    return parts


def ask_after(calls, asked):
    """The answers to the calls that are asked behind others."""
    return ask(calls + asked)[len(calls):]


def with_checksum(body):
    """Octets, and behind them their right checksum."""
    checksum = 0
    for octet in body:
        checksum = (checksum * 257 + octet + 1) % 1000000007
    return body + list(checksum.to_bytes(4, "big"))
