"""Sites, and the two copies of the state of each."""


# Sites are numbered from 1, so the lists have a place 0 that stays as it begins, like the place of the site itself.
class SiteCopy:
    def __init__(self, site_count):
        self.sent = [[] for place in range(site_count + 1)]
        self.acknowledged = [0 for place in range(site_count + 1)]
        self.received = [[] for place in range(site_count + 1)]

    def sent_count(self):
        return sum([len(messages) for messages in self.sent])

    def received_count(self):
        return sum([len(messages) for messages in self.received])

    def acknowledged_sum(self):
        return sum(self.acknowledged)

    def copied(self):
        # Messages are never changed, so the two may share them.
        twin = SiteCopy(0)
        twin.sent = [list(messages) for messages in self.sent]
        twin.acknowledged = list(self.acknowledged)
        twin.received = [list(messages) for messages in self.received]
        return twin

    def equals(self, other):
        if self.sent != other.sent or self.received != other.received:
            return False
        return self.acknowledged == other.acknowledged


class Site:
    def __init__(self, site_count):
        self.present = SiteCopy(site_count)
        self.durable = SiteCopy(site_count)

    def at_risk(self):
        return [
            self.present.sent_count() - self.durable.sent_count(),
            self.present.received_count() - self.durable.received_count(),
            self.present.acknowledged_sum() - self.durable.acknowledged_sum(),
        ]

    def sync(self):
        gained = self.at_risk()
        self.durable = self.present.copied()
        return gained

    def crash(self):
        lost = self.at_risk()
        self.present = self.durable.copied()
        return lost
