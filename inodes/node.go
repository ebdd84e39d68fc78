package inodes

import "maps"

// counts is what a node is there for: when it has none of it left, it is no more.
type counts struct {
	names int
	users int
}

// untie takes a name away, if there is one.
func (c *counts) untie() bool {
	if c.names == 0 {
		return false
	}
	c.names--
	return true
}

// loose takes a user away, if there is one.
func (c *counts) loose() bool {
	if c.users == 0 {
		return false
	}
	c.users--
	return true
}

// unused says whether there is neither a name nor a user.
func (c *counts) unused() bool {
	return *c == counts{}
}

// node is a node. What its blocks have behind its last byte is 0, so that it may grow without a block being touched.
type node struct {
	counts
	kind  int
	size  int
	parts map[int]int // the blocks of those parts that have one
}

// copied is a node that has the same; of none it is none.
func (n *node) copied() *node {
	if n == nil {
		return nil
	}
	c := *n
	c.parts = maps.Clone(n.parts)
	return &c
}
