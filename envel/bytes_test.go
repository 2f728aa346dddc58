package envel

import (
	"bytes"
	"math"
	"slices"
	"testing"

	"pigeonhole/api"
)

// sampleFrames are the payloads of the sample's file, and their kinds.
func sampleFrames() ([]int, []string) {
	return []int{16, 17, 18, 18}, []string{
		"\x00\x00\x00\x00\x00\x00\x01\x02" + "\x00\x00\x00\x01\x02\x03\x04\x05" +
			"\x00\x00\x00\x03a b" + "\x00\x00\x00\x05x.org" + "\x03" +
			"\x00\x03" + "\x00\x00\x00\x01c" + "\x00\x00\x00\x01y" +
			"\x03\xe7" + "\x00\x00\x00\x03all" + "\x00\x00\x00\x05X.org" +
			"\x00\x01" + "\x00\x00\x00\x01c" + "\x00\x00\x00\x01y",
		"hi\r\n",
		"\x01\x00" + "\x00\x02" + "\x00\x00\x00\x00\x00\x00\x00\x09" + "\x01\xc4",
		"\x02\x01" + "\x00\x00" + "\x00\x00\x00\x00\x00\x00\x00\x07" + "\x00\xfa",
	}
}

// sampleFile is the sample's file, and where its frames end.
func sampleFile() (b []byte, ends []int) {
	kinds, payloads := sampleFrames()
	for i, p := range payloads {
		b = append(b, wrapped(kinds[i], []byte(p))...)
		ends = append(ends, len(b))
	}
	return b, ends
}

// file is frames of these kinds and payloads.
func file(kinds []int, payloads []string) []byte {
	var b []byte
	for i, p := range payloads {
		b = append(b, wrapped(kinds[i], []byte(p))...)
	}
	return b
}

// reads fails, where Read doesn't tell that job and so many bytes.
func reads(t *testing.T, b []byte, want api.Job, used int) {
	t.Helper()
	if j, n, e := Read(b); e != api.OK || n != used || tells(j) != tells(want) {
		t.Errorf("Read(%x): %s %d %d, not %s %d", b, tells(j), n, e, tells(want), used)
	}
}

// broken fails, where Read doesn't refuse these bytes.
func broken(t *testing.T, b []byte) {
	t.Helper()
	if j, n, e := Read(b); e != api.ErrBroken || n != 0 || tells(j) != tells(api.Job{}) {
		t.Errorf("Read(%x): %s %d %d", b, tells(j), n, e)
	}
}

// P15.1, P15.4: the bytes of a file, and the job of these.
func TestBytes(t *testing.T) {
	want, _ := sampleFile()
	b, e := Bytes(sample())
	if e != api.OK || !bytes.Equal(b, want) {
		t.Errorf("%x %d, not %x", b, e, want)
	}
	reads(t, b, sample(), len(b))
}

// P15.1: what is fresh has no frame of its own, and what only looks so has one.
func TestBytesFresh(t *testing.T) {
	_, ends := sampleFile()
	j := turned(func(j *api.Job) { j.States[1], j.States[2] = j.States[0], j.States[0] })
	if b, _ := Bytes(j); len(b) != ends[1] {
		t.Errorf("%d bytes, not %d", len(b), ends[1])
	}
	for _, s := range []api.State{{}, {Due: j.Arrival, Tries: 1}, {Due: j.Arrival, Code: 250}, {Due: j.Arrival, State: 1}, {Due: j.Arrival + 1}} {
		x := turned(func(x *api.Job) { x.States = []api.State{j.States[0], j.States[0], s} })
		want, _ := Step(2, s)
		b, e := Bytes(x)
		if e != api.OK || !bytes.Equal(b[ends[1]:], want) {
			t.Errorf("%v: %x %d", s, b[ends[1]:], e)
		}
		reads(t, b, x, len(b))
	}
}

// P15.4: of all jobs that are right, Read of Bytes is the job.
func TestBytesRead(t *testing.T) {
	for _, turn := range rightJobs() {
		j := turned(turn)
		b, _ := Bytes(j)
		reads(t, b, j, len(b))
	}
}

// P15.1: the frame of a state: the chapter's example, and its greatest.
func TestStep(t *testing.T) {
	for _, x := range []struct {
		target  int
		s       api.State
		payload string
	}{
		{0, api.State{State: api.Delivered}, "\x00\x01\x00\x00\x00\x00\x00\x00\x00\x00\x00\x00\x00\x00"},
		{0, api.State{}, "\x00\x00\x00\x00\x00\x00\x00\x00\x00\x00\x00\x00\x00\x00"},
		{19, api.State{State: 3, Tries: 65535, Due: 1 << 52, Code: 599}, "\x13\x03\xff\xff\x00\x10\x00\x00\x00\x00\x00\x00\x02\x57"},
	} {
		want := wrapped(18, []byte(x.payload))
		if b, e := Step(x.target, x.s); e != api.OK || !bytes.Equal(b, want) {
			t.Errorf("Step(%d, %v): %x %d, not %x", x.target, x.s, b, e, want)
		}
	}
}

// P15.1: targets outside, ahead of a state that isn't right.
func TestStepTargets(t *testing.T) {
	for _, target := range []int{-1, 20, 256, math.MinInt, math.MaxInt} {
		for _, s := range []api.State{{}, {State: 4}} {
			if b, e := Step(target, s); e != api.ErrArg || len(b) != 0 {
				t.Errorf("Step(%d, %v): %x %d", target, s, b, e)
			}
		}
	}
}

// P15.2, P15.4: cut off anywhere, the job with the states of the whole frames; broken within the first two.
func TestReadCut(t *testing.T) {
	b, ends := sampleFile()
	fresh := Fresh(sample().Arrival)
	for n := range len(b) {
		if n < ends[1] {
			broken(t, b[:n])
			continue
		}
		j, used := sample(), ends[2]
		j.States[2] = fresh
		if n < ends[2] {
			j.States[1], used = fresh, ends[1]
		}
		reads(t, b[:n], j, used)
	}
}

// P15.4: with Steps behind, the states are these, the last one of each target.
func TestReadSteps(t *testing.T) {
	b, _ := Bytes(sample())
	j := sample()
	for i, x := range []struct {
		target int
		s      api.State
	}{{0, api.State{Tries: 1, Due: 6, Code: 451}}, {0, api.State{State: api.Delivered, Due: 6}}, {1, api.State{State: api.Bounced, Code: 550}}, {0, Fresh(8)}, {2, api.State{}}} {
		step, e := Step(x.target, x.s)
		if e != api.OK {
			t.Fatalf("%d: %d", i, e)
		}
		b = append(b, step...)
		j.States[x.target] = x.s
		reads(t, b, j, len(b))
	}
}

// P15.2: what stands behind the last frame that is as told tells nothing, a right frame behind it neither.
func TestReadBehind(t *testing.T) {
	b, _ := sampleFile()
	right, _ := Step(0, api.State{State: api.Delivered})
	state := string(plainStep(0, api.State{}))
	for _, behind := range [][]byte{
		{0}, {0x50}, {0x51}, right[:len(right)-1], right[1:], b,
		wrapped(18, []byte(state[:13])),
		wrapped(18, []byte(state+"\x00")),
		wrapped(18, nil),
		wrapped(17, []byte(state)),
		wrapped(19, []byte(state)),
		wrapped(18, plainStep(3, api.State{})),
		wrapped(18, plainStep(255, api.State{})),
		wrapped(18, plainStep(0, api.State{State: 4})),
		wrapped(18, plainStep(0, api.State{State: 255})),
		wrapped(18, plainStep(0, api.State{Due: 1<<52 + 1})),
		wrapped(18, plainStep(0, api.State{Due: -1})),
		wrapped(18, plainStep(0, api.State{Code: 199})),
		wrapped(18, plainStep(0, api.State{Code: 600})),
	} {
		reads(t, slices.Concat(b, behind), sample(), len(b))
		reads(t, slices.Concat(b, behind, right), sample(), len(b))
	}
}

// P15.2: first frames of other kinds, in another order, with something ahead or between.
func TestReadFirstFrames(t *testing.T) {
	kinds, payloads := sampleFrames()
	for i := range 2 {
		for _, kind := range []int{0, 1, 16, 17, 18, 19, 255} {
			k := slices.Clone(kinds)
			k[i] = kind
			if kind != kinds[i] {
				broken(t, file(k, payloads))
			}
		}
	}
	broken(t, file([]int{17, 16}, []string{payloads[1], payloads[0]}))
	broken(t, file([]int{16, 18, 17}, []string{payloads[0], payloads[2], payloads[1]}))
	broken(t, file([]int{16, 16, 17}, []string{payloads[0], payloads[0], payloads[1]}))
	b, ends := sampleFile()
	broken(t, append([]byte{0}, b...))
	broken(t, slices.Concat(b[:ends[0]], []byte{0}, b[ends[0]:]))
	broken(t, b[1:])
	broken(t, b[ends[0]:])
	broken(t, nil)
	broken(t, []byte{})
	broken(t, bytes.Repeat([]byte{0x50}, 50))
}

// P15.2: the first frame cut, lengthened, or with texts whose lengths are others.
func TestReadTold(t *testing.T) {
	kinds, payloads := sampleFrames()
	whole := payloads[0]
	other := func(told string) []byte { return file(kinds[:2], []string{told, payloads[1]}) }
	for n := range len(whole) {
		broken(t, other(whole[:n]))
	}
	broken(t, other(whole+"\x00"))
	broken(t, other(whole+whole[len(whole)-12:]))
	for _, at := range []int{16, 19, 23, 26, 32, 35, 38} {
		for _, v := range []byte{0, 1, 64, 65, 255} {
			b := []byte(whole)
			if b[at] != v {
				b[at] = v
				broken(t, other(string(b)))
			}
		}
	}
}

// P15.2: frames that are as told, but of a job that isn't right.
func TestReadWrong(t *testing.T) {
	for _, turn := range wrongJobs() {
		j := turned(turn)
		if len(j.To) != len(j.States) || len(j.To) > 255 || slices.ContainsFunc(j.To, func(t api.Target) bool { return t.User != int(uint16(t.User)) }) {
			continue // no file can tell it
		}
		if slices.ContainsFunc(j.States, func(s api.State) bool { return !GoodState(s) }) {
			continue // states stand behind
		}
		broken(t, slices.Concat(wrapped(16, plainTold(j)), wrapped(17, j.Body)))
	}
	j := turned(many(255))
	broken(t, slices.Concat(wrapped(16, plainTold(j)), wrapped(17, j.Body)))
}

// P15.4: what is handed in stays and isn't kept; what is answered is new memory.
func TestBytesMemory(t *testing.T) {
	j := sample()
	want, _ := sampleFile()
	b, _ := Bytes(j)
	s, _ := Step(1, j.States[1])
	if tells(j) != tells(sample()) {
		t.Errorf("changed: %s", tells(j))
	}
	clear(j.Body)
	clear(j.To)
	clear(j.States)
	if !bytes.Equal(b, want) {
		t.Errorf("%x", b)
	}
	kept := slices.Clone(s)
	c, _ := Bytes(sample())
	clear(b)
	if u, _ := Step(1, sample().States[1]); !bytes.Equal(c, want) || !bytes.Equal(u, kept) {
		t.Errorf("%x", c)
	}
}

// P15.4: the same of Read: no list of an answer shares with what was handed in, nor with another.
func TestReadMemory(t *testing.T) {
	b, _ := sampleFile()
	kept := slices.Clone(b)
	whole := append(slices.Clone(b), "more"...)
	j, _, _ := Read(whole[:len(b)])
	x, _, _ := Read(whole[:len(b)])
	if string(whole) != string(kept)+"more" {
		t.Errorf("changed: %x", whole)
	}
	clear(whole)
	if tells(j) != tells(sample()) {
		t.Errorf("%s", tells(j))
	}
	_ = append(j.Body, "more"...)
	_ = append(j.To, api.Target{User: 9})
	_ = append(j.States, api.State{Code: 9})
	clear(j.Body)
	clear(j.To)
	clear(j.States)
	if tells(x) != tells(sample()) {
		t.Errorf("%s", tells(x))
	}
}

// P15.1: a user that is there twice is found in any of the places.
func TestTwice(t *testing.T) {
	for i := range 20 {
		for k := range i {
			j := turned(many(20))
			j.To[i].User = j.To[k].User
			if Good(j) {
				t.Errorf("%d and %d", k, i)
			}
		}
	}
}

// R4: what lies behind a list's length is neither read nor written.
func TestBehindLength(t *testing.T) {
	j := turned(many(20))
	want := turned(func(x *api.Job) { many(2)(x) })
	j.To, j.States = j.To[:2], j.States[:2]
	j.Body = append(j.Body, "xyz"...)[:len(j.Body)]
	a, e := Bytes(j)
	b, _ := Bytes(want)
	if e != api.OK || !bytes.Equal(a, b) || j.To[:20][2].User != 3 || string(j.Body[:7]) != "hi\r\nxyz" {
		t.Errorf("%x %d", a, e)
	}
}
