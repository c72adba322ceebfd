"""Unnumbered: values that compare with nothing, and what programs over series do with them."""
