"""Tests of the package, through the interface that the document tells."""
