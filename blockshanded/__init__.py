"""Blockshanded: what programs can do that hand pieces of work on."""
