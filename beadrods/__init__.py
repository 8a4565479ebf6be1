"""Beadrods: the hand abacus, in several manners."""
