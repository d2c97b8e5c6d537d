"""Xorbanks: bank maps whose bits are XORs of address bits."""
