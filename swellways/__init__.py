"""Swellways: senders on shared ways."""
