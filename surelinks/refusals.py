"""The error codes, and the checks that several calls share. A check answers a code, or 0 if all is well."""

from surelinks.limits import is_site_number

OUTSIDE_LIMITS = -1
NO_SUCH_SITE = -2
NO_SUCH_PACKET = -3
NO_SITES = -4
SITES_ALREADY = -5
SAME_SITE = -6
LIMIT_REACHED = -7
MESSAGE_ON_WIRES = -8
NOT_POSSIBLE = -9


# others_fit tells whether the call's other values are in their limits: all limits are checked ahead of any site.
def sites_refusal(network, numbers, others_fit):
    if not network.sites:
        return NO_SITES
    if not others_fit or not all([is_site_number(number) for number in numbers]):
        return OUTSIDE_LIMITS
    if any([number > len(network.sites) for number in numbers]):
        return NO_SUCH_SITE
    return 0


def pair_refusal(network, one, other, others_fit):
    refusal = sites_refusal(network, [one, other], others_fit)
    if refusal == 0 and one == other:
        return SAME_SITE
    return refusal


def packet_refusal(network, index, others_fit):
    refusal = sites_refusal(network, [], others_fit)
    if refusal == 0 and not 0 <= index < len(network.wires):
        return NO_SUCH_PACKET
    return refusal
