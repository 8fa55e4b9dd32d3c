"""Panelworks: from a drawing to the made thing."""
