"""Reliable links over unreliable wires: see surelinks.links.answers."""
