"""Trade: owners trade goods by deals of several at once."""
