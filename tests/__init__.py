"""The tests of looporder."""
