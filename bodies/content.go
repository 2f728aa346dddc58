package bodies

import (
	"bytes"

	"pigeonhole/api"
	"pigeonhole/crc"
	"pigeonhole/record"
)

// sign is what two bodies have in common that may be alike.
type sign struct {
	size int
	sum  uint32
}

// content is what bytes tell of bodies: these by their numbers, the numbers of those that may be alike, the next number, and how many bytes stand in none of the records.
type content struct {
	bodies       map[int][]byte
	alike        map[sign][]int
	next, broken int
}

// signOf is a body's.
func signOf(b []byte) sign {
	return sign{size: len(b), sum: crc.Of(b)}
}

// recordOf is that of a body with a number.
func recordOf(n int, b []byte) api.Rec {
	return api.Rec{Kind: api.RecBody, Body: n, Data: b}
}

// contentOf is what bytes tell.
func contentOf(b []byte) content {
	found, broken := record.Scan(b)
	c := content{bodies: map[int][]byte{}, alike: map[sign][]int{}, next: 1, broken: broken}
	for _, f := range found {
		if f.Rec.Kind != api.RecBody {
			c.broken += f.Len
			continue
		}
		c.add(f.Rec.Body, f.Rec.Data)
	}
	return c
}

// add takes a body in, unless its number has one.
func (c *content) add(n int, b []byte) {
	c.next = max(c.next, n+1)
	if _, ok := c.bodies[n]; ok {
		return
	}
	c.bodies[n] = b
	s := signOf(b)
	c.alike[s] = append(c.alike[s], n)
}

// least is the least number of a body with these bytes, 0 without one.
func (c *content) least(b []byte) int {
	least := 0
	for _, n := range c.alike[signOf(b)] {
		if (least == 0 || n < least) && bytes.Equal(c.bodies[n], b) {
			least = n
		}
	}
	return least
}
