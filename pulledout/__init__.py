"""A device that may be pulled out while any number of hands work with it."""
