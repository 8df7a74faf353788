"""The sites and the wires between them: all that the calls of one request work on."""

from surelinks.sites import Site


class WirePacket:
    def __init__(self, octets, damaged):
        self.octets = octets
        self.damaged = damaged

    def twin(self):
        return WirePacket(list(self.octets), self.damaged)


class Network:
    def __init__(self):
        self.sites = []
        self.wires = []
        self.duplicated = 0

    def site(self, number):
        return self.sites[number - 1]

    def add_sites(self, count):
        self.sites = [Site(count) for place in range(count)]

    # The pairs of different sites in lexicographic order.
    def pairs(self):
        found = []
        for one in range(1, len(self.sites) + 1):
            for other in range(1, len(self.sites) + 1):
                if one != other:
                    found.append((one, other))
        return found
