package envel

import (
	"bytes"
	"encoding/binary"
	"fmt"
	"math"
	"math/rand"
	"slices"
	"strings"
	"testing"

	"pigeonhole/addr"
	"pigeonhole/api"
	"pigeonhole/frame"
)

// plainState is GoodState by the chapter's words.
func plainState(s api.State) bool {
	if s.State < 0 || s.State > 3 || s.Tries < 0 || s.Tries > 65535 || s.Due < 0 || s.Due > 1<<52 {
		return false
	}
	return s.Code == 0 || s.Code >= 200 && s.Code <= 599
}

// plainGood is Good by the chapter's words.
func plainGood(j api.Job) bool {
	if j.Id < 1 || j.Id > 1<<40 || j.Arrival < 0 || j.Arrival > 1<<52 || len(j.Body) > 32768 {
		return false
	}
	if !addr.Good(j.From) && (j.From.Local != "" || j.From.Domain != "") {
		return false
	}
	if len(j.To) < 1 || len(j.To) > 20 || len(j.States) != len(j.To) {
		return false
	}
	for i, t := range j.To {
		if t.User < 1 || t.User > 999 || !addr.Good(t.Addr) || !plainState(j.States[i]) {
			return false
		}
		for _, u := range j.To[:i] {
			if u.User == t.User {
				return false
			}
		}
	}
	return true
}

// text puts a text behind bytes.
func text(b []byte, s string) []byte {
	return append(binary.BigEndian.AppendUint32(b, uint32(len(s))), s...)
}

// plainTold is the payload of the frame of kind 16.
func plainTold(j api.Job) []byte {
	b := binary.BigEndian.AppendUint64(nil, uint64(j.Id))
	b = binary.BigEndian.AppendUint64(b, uint64(j.Arrival))
	b = text(text(b, j.From.Local), j.From.Domain)
	b = append(b, byte(len(j.To)))
	for _, t := range j.To {
		b = binary.BigEndian.AppendUint16(b, uint16(t.User))
		b = text(text(b, t.Addr.Local), t.Addr.Domain)
	}
	return b
}

// plainStep is the payload of a frame of kind 18.
func plainStep(target int, s api.State) []byte {
	b := []byte{byte(target), byte(s.State)}
	b = binary.BigEndian.AppendUint16(b, uint16(s.Tries))
	b = binary.BigEndian.AppendUint64(b, uint64(s.Due))
	return binary.BigEndian.AppendUint16(b, uint16(s.Code))
}

// wrapped is a frame.
func wrapped(kind int, payload []byte) []byte {
	b, e := frame.Wrap(kind, payload)
	if e != api.OK {
		panic(e)
	}
	return b
}

// plainBytes is Bytes by the chapter's words.
func plainBytes(j api.Job) ([]byte, api.Errno) {
	if !plainGood(j) {
		return nil, api.ErrForm
	}
	b := append(wrapped(16, plainTold(j)), wrapped(17, j.Body)...)
	for i, s := range j.States {
		if s != (api.State{Due: j.Arrival}) {
			b = append(b, wrapped(18, plainStep(i, s))...)
		}
	}
	return b, api.OK
}

// cutter cuts a payload into its numbers and texts; short, if it came to its end too early.
type cutter struct {
	b     []byte
	short bool
}

// raw cuts so many bytes off.
func (c *cutter) raw(n int) []byte {
	if c.short || len(c.b) < n {
		c.short = true
		return make([]byte, min(n, 8))
	}
	b := c.b[:n]
	c.b = c.b[n:]
	return b
}

// number cuts a number off.
func (c *cutter) number(n int) int {
	v := uint64(0)
	for _, x := range c.raw(n) {
		v = v*256 + uint64(x)
	}
	return int(v)
}

// mailbox cuts a mailbox off.
func (c *cutter) mailbox() api.Addr {
	local := string(c.raw(c.number(4)))
	return api.Addr{Local: local, Domain: string(c.raw(c.number(4)))}
}

// plainRead is Read by the chapter's words.
func plainRead(b []byte) (api.Job, int, api.Errno) {
	l, _, _ := frame.Row(b)
	if len(l) < 2 || l[0].Kind != 16 || l[1].Kind != 17 {
		return api.Job{}, 0, api.ErrBroken
	}
	c := cutter{b: l[0].Payload}
	j := api.Job{Id: c.number(8), Arrival: c.number(8), From: c.mailbox(), Body: l[1].Payload}
	for range c.number(1) {
		j.To = append(j.To, api.Target{User: c.number(2), Addr: c.mailbox()})
		j.States = append(j.States, api.State{Due: j.Arrival})
	}
	if c.short || len(c.b) > 0 || !plainGood(j) {
		return api.Job{}, 0, api.ErrBroken
	}
	used := l[0].Len + l[1].Len
	for _, f := range l[2:] {
		if f.Kind != 18 || len(f.Payload) != 14 {
			break
		}
		c := cutter{b: f.Payload}
		target := c.number(1)
		s := api.State{State: c.number(1), Tries: c.number(2), Due: c.number(8), Code: c.number(2)}
		if target >= len(j.To) || !plainState(s) {
			break
		}
		j.States[target] = s
		used += f.Len
	}
	return j, used, api.OK
}

// tells is a job as a text.
func tells(j api.Job) string {
	return fmt.Sprintf("%d %d %q %v %v %x", j.Id, j.Arrival, j.From, j.To, j.States, j.Body)
}

// oneOf draws one of a list.
func oneOf[T any](rnd *rand.Rand, l ...T) T {
	return l[rnd.Intn(len(l))]
}

// drawAddr draws a good mailbox.
func drawAddr(rnd *rand.Rand) api.Addr {
	long := strings.Repeat("P", 64)
	return api.Addr{Local: oneOf(rnd, "a", "a b", "\"", long, "Ann"), Domain: oneOf(rnd, "x", "x.org", long, "X.ORG")}
}

// drawState draws a right state.
func drawState(rnd *rand.Rand) api.State {
	return api.State{
		State: rnd.Intn(4),
		Tries: oneOf(rnd, 0, 1, 0x50, 0x5150, 65535),
		Due:   oneOf(rnd, 0, 5, 1<<40, 1<<52, 0x505152),
		Code:  oneOf(rnd, 0, 200, 250, 452, 599),
	}
}

// drawJob draws a right job.
func drawJob(rnd *rand.Rand) api.Job {
	j := api.Job{Id: oneOf(rnd, 1, 0x50, 7, 1<<40), Arrival: oneOf(rnd, 0, 5, 1<<52), From: drawAddr(rnd)}
	if rnd.Intn(3) == 0 {
		j.From = api.Addr{}
	}
	users := rnd.Perm(999)
	for i := range oneOf(rnd, 1, 2, 3, 20) {
		j.To = append(j.To, api.Target{User: users[i] + 1, Addr: drawAddr(rnd)})
		j.States = append(j.States, oneOf(rnd, api.State{Due: j.Arrival}, drawState(rnd)))
	}
	j.Body = make([]byte, rnd.Intn(20))
	rnd.Read(j.Body)
	return j
}

// spoilState sets one number of a state to something else.
func spoilState(rnd *rand.Rand, s *api.State) {
	v := oneOf(rnd, -1, 0, 1, 3, 4, 199, 200, 599, 600, 65535, 65536, 1<<52, 1<<52+1, math.MinInt, math.MaxInt)
	*oneOf(rnd, &s.State, &s.Tries, &s.Due, &s.Code) = v
}

// spoilAddr makes another mailbox of one, most often one that isn't good.
func spoilAddr(rnd *rand.Rand, a *api.Addr) {
	*oneOf(rnd, &a.Local, &a.Domain) = oneOf(rnd, "", "x", "a\x1f", "a\x7f", "-", "a..b", strings.Repeat("a", 65))
}

// spoil makes another job of one, most often one that isn't right.
func spoil(rnd *rand.Rand, j *api.Job) {
	target, state := &api.Target{}, &api.State{}
	if n := min(len(j.To), len(j.States)); n > 0 {
		target, state = &j.To[rnd.Intn(n)], &j.States[rnd.Intn(n)]
	}
	switch rnd.Intn(10) {
	case 0:
		j.Id = oneOf(rnd, 0, -1, 1<<40, 1<<40+1, math.MinInt, math.MaxInt)
	case 1:
		j.Arrival = oneOf(rnd, -1, 1<<52, 1<<52+1, math.MinInt, math.MaxInt)
	case 2:
		spoilAddr(rnd, &j.From)
	case 3:
		target.User = oneOf(rnd, 0, -1, 1, 999, 1000, 65537, math.MinInt, math.MaxInt)
	case 4:
		spoilAddr(rnd, &target.Addr)
	case 5:
		spoilState(rnd, state)
	case 6:
		j.To = append(j.To, api.Target{User: oneOf(rnd, 1, 2, 999), Addr: drawAddr(rnd)})
		j.States = append(j.States, drawState(rnd))
	case 7:
		j.To = j.To[:rnd.Intn(len(j.To)+1)]
	case 8:
		j.States = j.States[:rnd.Intn(len(j.States)+1)]
	case 9:
		j.Body = make([]byte, oneOf(rnd, 32768, 32769))
	}
}

// P15.1, P15.4: drawn jobs, right ones and spoilt ones, against the chapter's words.
func TestDrawnJobs(t *testing.T) {
	rnd := rand.New(rand.NewSource(151))
	for range 6000 {
		j := drawJob(rnd)
		for range rnd.Intn(3) {
			spoil(rnd, &j)
		}
		want, e := plainBytes(j)
		if Good(j) != (e == api.OK) {
			t.Fatalf("Good(%s): %v", tells(j), Good(j))
		}
		b, f := Bytes(j)
		if f != e || !bytes.Equal(b, want) {
			t.Fatalf("Bytes(%s): %x %d, not %x %d", tells(j), b, f, want, e)
		}
		if e == api.OK {
			if x, used, e := Read(b); e != api.OK || used != len(b) || tells(x) != tells(j) || !Same(x, j) {
				t.Fatalf("Read(%x): %s %d %d, not %s", b, tells(x), used, e, tells(j))
			}
		}
	}
}

// P15.1: drawn states and targets, against the chapter's words.
func TestDrawnSteps(t *testing.T) {
	rnd := rand.New(rand.NewSource(152))
	for range 20000 {
		s := drawState(rnd)
		for range rnd.Intn(3) {
			spoilState(rnd, &s)
		}
		target := oneOf(rnd, 0, 1, 19, 20, -1, 256, math.MinInt, math.MaxInt)
		if GoodState(s) != plainState(s) {
			t.Fatalf("GoodState(%v): %v", s, GoodState(s))
		}
		var want []byte
		e := api.OK
		switch {
		case target < 0 || target > 19:
			e = api.ErrArg
		case !plainState(s):
			e = api.ErrForm
		default:
			want = wrapped(18, plainStep(target, s))
		}
		if b, f := Step(target, s); f != e || !bytes.Equal(b, want) {
			t.Fatalf("Step(%d, %v): %x %d, not %x %d", target, s, b, f, want, e)
		}
	}
}

// spoilPayload makes another payload of one.
func spoilPayload(rnd *rand.Rand, b []byte) []byte {
	b = slices.Clone(b)
	switch rnd.Intn(3) {
	case 0:
		return b[:rnd.Intn(len(b)+1)]
	case 1:
		return append(b, 0)
	}
	if len(b) > 0 {
		b[rnd.Intn(len(b))] = oneOf[byte](rnd, 0, 1, 2, 3, 4, 20, 21, 64, 65, 128, 255)
	}
	return b
}

// drawFile draws the frames of a job's file, some of which may be spoilt, lacking, or in another place.
func drawFile(rnd *rand.Rand) []byte {
	j := drawJob(rnd)
	type part struct {
		kind    int
		payload []byte
	}
	l := []part{{16, plainTold(j)}, {17, j.Body}}
	for range rnd.Intn(5) {
		l = append(l, part{18, plainStep(rnd.Intn(len(j.To)), drawState(rnd))})
	}
	if rnd.Intn(2) == 0 {
		p := &l[rnd.Intn(len(l))]
		p.payload = spoilPayload(rnd, p.payload)
	}
	switch i, k := rnd.Intn(len(l)), rnd.Intn(len(l)); rnd.Intn(8) {
	case 0:
		l[i], l[k] = l[k], l[i]
	case 1:
		l[i].kind = oneOf(rnd, 0, 1, 16, 17, 18, 19, 255)
	case 2:
		l = slices.Insert(l, i, l[k])
	case 3:
		l = slices.Delete(l, i, i+1)
	}
	var b []byte
	for _, p := range l {
		b = append(b, wrapped(p.kind, p.payload)...)
	}
	return b
}

// P15.2: drawn files, whole ones and spoilt ones, against the chapter's words.
func TestDrawnFiles(t *testing.T) {
	rnd := rand.New(rand.NewSource(153))
	for range 20000 {
		b := drawFile(rnd)
		switch rnd.Intn(6) {
		case 0:
			b = b[:rnd.Intn(len(b)+1)]
		case 1:
			b = append(b, oneOf(rnd, "x", "\x50", "\x50\x12\x00", "\x51\x01")...)
		case 2:
			if len(b) > 0 {
				b[rnd.Intn(len(b))]++
			}
		}
		want, used, e := plainRead(b)
		if j, n, f := Read(b); f != e || n != used || tells(j) != tells(want) {
			t.Fatalf("Read(%x): %s %d %d, not %s %d %d", b, tells(j), n, f, tells(want), used, e)
		}
	}
}
