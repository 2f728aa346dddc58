package dot

import (
	"bytes"

	"pigeonhole/api"
)

// state is what stands ahead of the byte that comes next.
type state int

// The states.
const (
	begins  state = iota // a line's end, or nothing
	pointed              // a point at a line's beginning
	ending               // that, and a CR
	turned               // a CR elsewhere
	inside               // another byte of a line
	ended                // the line that ends the message
)

// Decoder takes a message.
type Decoder struct {
	state state
	// line is how many bytes of the line are the message's, kept or not.
	line int
	most int
	text api.Text
}

// NewDecoder is a decoder without bytes.
func NewDecoder(most int) *Decoder {
	return &Decoder{most: max(most, 0)}
}

// Feed takes bytes.
func (d *Decoder) Feed(b []byte) (used int, done bool) {
	for used < len(b) && !d.Done() {
		d.take(b[used])
		used++
	}
	return used, d.Done()
}

// take goes on behind a byte.
func (d *Decoder) take(v byte) {
	switch d.state {
	case begins:
		if v == point {
			d.state = pointed
			return
		}
		d.keep(v)
	case pointed:
		if v == cr {
			d.state = ending
			return
		}
		d.keep(v)
	case ending:
		if v == lf {
			d.state = ended
			return
		}
		// Only now it is known that the CR is the message's, and that it stands alone.
		d.text.Bare = true
		d.keep(cr, v)
	case turned:
		if v == lf {
			d.keep(v)
			d.state, d.line = begins, 0
			return
		}
		d.text.Bare = true
		fallthrough
	case inside:
		d.keep(v)
	}
	d.stand(v)
}

// stand is the state behind a byte of a line that goes on.
func (d *Decoder) stand(v byte) {
	d.state = inside
	switch v {
	case cr:
		d.state = turned
	case lf:
		d.text.Bare = true
	}
}

// keep puts bytes of the line behind the message, as many as it may have.
func (d *Decoder) keep(b ...byte) {
	d.line += len(b)
	if d.line > api.MaxText {
		d.text.Long = true
	}
	if room := d.most - len(d.text.Bytes); len(b) > room {
		d.text.Large = true
		b = b[:room]
	}
	d.text.Bytes = append(d.text.Bytes, b...)
}

// Done tells whether the message has come to its end.
func (d *Decoder) Done() bool {
	return d.state == ended
}

// Text is what came.
func (d *Decoder) Text() api.Text {
	t := d.text
	t.Bytes = bytes.Clone(t.Bytes)
	return t
}
