"""Apart: heaps told by parts that lie apart."""
