"""Rimcords: plane boards, wires between pins on their rims, and the lot of cords that stands for each board."""
