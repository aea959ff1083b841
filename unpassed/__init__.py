"""Unpassed: a coder by tables of cells, in which no state ever passes another one."""
