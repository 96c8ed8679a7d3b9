package check

import "spinet/api"

// The scope's levels. Imports and declarations are one level of names, but a
// Scope holds no more than MaxTypes names in one, and a module may have more.
const (
	importLevel  = 1
	declLevel    = 2
	universeSize = 4
)

func (c *checker) universe() {
	for i, name := range [universeSize]string{"INTEGER", "BOOLEAN", "CHAR", "SET"} {
		c.declare(name, 0, named{place: api.FmInt + i, done: true})
	}
	for _, name := range []string{
		"ABS", "ODD", "LEN", "LSL", "ASR", "ROR", "ORD", "CHR", "EOT",
		"INC", "DEC", "INCL", "EXCL", "NEW", "ASSERT", "READ", "WRITE",
	} {
		c.declare(name, 0, standard{name})
	}
}

// declare answers the thing's number, by which another one may take its place.
func (c *checker) declare(name string, at int, x thing) int {
	if c.taken(name) {
		fail(api.ErrTwice, at)
	}
	n := len(c.things)
	c.names.Declare(name, n)
	c.things = append(c.things, x)
	return n
}

func (c *checker) taken(name string) bool {
	_, level, ok := c.names.Find(name)
	depth := c.names.Depth()
	return ok && (level == depth || depth == declLevel && level == importLevel)
}

func (c *checker) find(name string) (thing, bool) {
	n, _, ok := c.names.Find(name)
	if !ok {
		return nil, false
	}
	return c.things[n], true
}

func (c *checker) findType(name string) (named, bool) {
	x, ok := c.find(name)
	if !ok {
		return named{}, false
	}
	t, ok := x.(named)
	return t, ok
}

func (c *checker) findModule(name string) (module, bool) {
	x, ok := c.find(name)
	if !ok {
		return module{}, false
	}
	m, ok := x.(module)
	return m, ok
}
