"""Batchpipe: wares sent one behind another through one long pipe."""
