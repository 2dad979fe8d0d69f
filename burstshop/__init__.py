"""Burstshop: circuits without a clock, right for all delays."""
