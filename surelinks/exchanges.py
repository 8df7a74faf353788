"""An exchange, step by step."""

from surelinks.wires import ACKNOWLEDGED_INCREASES, MESSAGE_RECEIVED, deliver_packet, transmit_durable


def deliver_all(network):
    outcomes = []
    while network.wires:
        outcomes.append(deliver_packet(network, 0)[0])
    return outcomes


def sync_all(network):
    for site in network.sites:
        site.sync()


# What is on the wires at first is delivered ahead of the syncs, so that it is durable when the sites transmit.
def perform_exchange(network):
    outcomes = deliver_all(network)
    sync_all(network)
    for sender, receiver in network.pairs():
        transmit_durable(network, sender, receiver)
        outcomes.extend(deliver_all(network))
    sync_all(network)
    return [outcomes.count(MESSAGE_RECEIVED), outcomes.count(ACKNOWLEDGED_INCREASES)]
