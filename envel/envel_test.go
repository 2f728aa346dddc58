package envel

import (
	"bytes"
	"math"
	"slices"
	"strings"
	"testing"

	"pigeonhole/api"
)

// sample is a right job: one target is fresh, one waits again, one is at its end.
func sample() api.Job {
	return api.Job{
		Id:      258,
		Arrival: 0x0102030405,
		From:    api.Addr{Local: "a b", Domain: "x.org"},
		To: []api.Target{
			{User: 3, Addr: api.Addr{Local: "c", Domain: "y"}},
			{User: 999, Addr: api.Addr{Local: "all", Domain: "X.org"}},
			{User: 1, Addr: api.Addr{Local: "c", Domain: "y"}},
		},
		States: []api.State{
			{Due: 0x0102030405},
			{Tries: 2, Due: 9, Code: 452},
			{State: api.Delivered, Due: 7, Code: 250},
		},
		Body: []byte("hi\r\n"),
	}
}

// turned is the sample, turned into another job.
func turned(turn func(j *api.Job)) api.Job {
	j := sample()
	turn(&j)
	return j
}

// many are so many targets, each fresh at the sample's arrival.
func many(n int) func(j *api.Job) {
	return func(j *api.Job) {
		j.To, j.States = nil, nil
		for i := range n {
			j.To = append(j.To, api.Target{User: i + 1, Addr: j.From})
			j.States = append(j.States, Fresh(j.Arrival))
		}
	}
}

// rightJobs are jobs that are right, many of them just so.
func rightJobs() []func(j *api.Job) {
	long := strings.Repeat("a", 64)
	return []func(j *api.Job){
		func(j *api.Job) {},
		func(j *api.Job) { j.Id = 1 },
		func(j *api.Job) { j.Id = 1 << 40 },
		func(j *api.Job) { j.Arrival = 0 },
		func(j *api.Job) { j.Arrival = 1 << 52 },
		func(j *api.Job) { j.From = api.Addr{} },
		func(j *api.Job) { j.From = api.Addr{Local: long, Domain: long} },
		func(j *api.Job) { j.To[0].User = 2 },
		func(j *api.Job) { j.To[1].Addr = api.Addr{Local: long, Domain: long} },
		func(j *api.Job) { j.States[0] = api.State{} },
		func(j *api.Job) { j.States[0] = api.State{State: 3, Tries: 65535, Due: 1 << 52, Code: 599} },
		func(j *api.Job) { j.States[0].Code = 200 },
		func(j *api.Job) { j.Body = nil },
		func(j *api.Job) { j.Body = make([]byte, 32768) },
		func(j *api.Job) { j.Body = bytes.Repeat([]byte{0x50}, 32768) },
		many(1),
		many(20),
	}
}

// wrongJobs are jobs that aren't right.
func wrongJobs() []func(j *api.Job) {
	return []func(j *api.Job){
		func(j *api.Job) { *j = api.Job{} },
		func(j *api.Job) { j.Id = 0 },
		func(j *api.Job) { j.Id = -1 },
		func(j *api.Job) { j.Id = 1<<40 + 1 },
		func(j *api.Job) { j.Id = math.MinInt },
		func(j *api.Job) { j.Arrival = -1 },
		func(j *api.Job) { j.Arrival = 1<<52 + 1 },
		func(j *api.Job) { j.Arrival = math.MaxInt },
		func(j *api.Job) { j.From.Local = "" },
		func(j *api.Job) { j.From.Domain = "" },
		func(j *api.Job) { j.From.Domain = "-" },
		func(j *api.Job) { j.From.Local = strings.Repeat("a", 65) },
		func(j *api.Job) { j.From.Local = "\x7f" },
		func(j *api.Job) { j.To[0].User = 0 },
		func(j *api.Job) { j.To[2].User = 1000 },
		func(j *api.Job) { j.To[2].User = -1 },
		func(j *api.Job) { j.To[2].User = 1 + 1<<16 },
		func(j *api.Job) { j.To[2].User = 3 },
		func(j *api.Job) { j.To[2] = j.To[1] },
		func(j *api.Job) { j.To[1].Addr = api.Addr{} },
		func(j *api.Job) { j.To[1].Addr.Domain = "x..org" },
		func(j *api.Job) { j.States = j.States[:2] },
		func(j *api.Job) { j.To = j.To[:2] },
		func(j *api.Job) { j.To = nil },
		func(j *api.Job) { j.States = nil },
		func(j *api.Job) { j.States = append(j.States, Fresh(j.Arrival)) },
		func(j *api.Job) { j.States[2].State = 4 },
		func(j *api.Job) { j.States[0].State = -1 },
		func(j *api.Job) { j.States[0].Tries = 65536 },
		func(j *api.Job) { j.States[1].Due = -1 },
		func(j *api.Job) { j.States[1].Code = 199 },
		func(j *api.Job) { j.Body = make([]byte, 32769) },
		many(0),
		many(21),
		many(300),
	}
}

// P15.1: jobs that are right.
func TestGood(t *testing.T) {
	for i, turn := range rightJobs() {
		j := turned(turn)
		if !Good(j) {
			t.Errorf("%d: not good", i)
		}
		if b, e := Bytes(j); e != api.OK || len(b) == 0 {
			t.Errorf("%d: %d", i, e)
		}
	}
}

// P15.1: jobs that aren't right.
func TestGoodNot(t *testing.T) {
	for i, turn := range wrongJobs() {
		j := turned(turn)
		if Good(j) {
			t.Errorf("%d: good", i)
		}
		if b, e := Bytes(j); e != api.ErrForm || len(b) != 0 {
			t.Errorf("%d: %x %d", i, b, e)
		}
	}
}

// P15.1: each number of a state at its edges.
func TestGoodState(t *testing.T) {
	edges := []struct {
		set  func(s *api.State, v int)
		good []int
		bad  []int
	}{
		{func(s *api.State, v int) { s.State = v }, []int{0, 1, 2, 3}, []int{-1, 4, 256}},
		{func(s *api.State, v int) { s.Tries = v }, []int{0, 1, 65535}, []int{-1, 65536}},
		{func(s *api.State, v int) { s.Due = v }, []int{0, 1, 1 << 52}, []int{-1, 1<<52 + 1}},
		{func(s *api.State, v int) { s.Code = v }, []int{0, 200, 201, 598, 599}, []int{-1, 1, 199, 600, 65536 + 250}},
	}
	for i, x := range edges {
		for _, v := range x.good {
			s := sample().States[1]
			x.set(&s, v)
			if !GoodState(s) {
				t.Errorf("%d: %v", i, s)
			}
		}
		for _, v := range append(x.bad, math.MinInt, math.MaxInt) {
			s := sample().States[1]
			x.set(&s, v)
			if GoodState(s) {
				t.Errorf("%d: %v", i, s)
			}
			if b, e := Step(0, s); e != api.ErrForm || len(b) != 0 {
				t.Errorf("%d: %x %d", i, b, e)
			}
		}
	}
}

// P15.1: a fresh state is that of the arrival, whatever it is.
func TestFresh(t *testing.T) {
	for _, arrival := range []int{0, 1, 1 << 52, 1<<52 + 1, -1, math.MinInt, math.MaxInt} {
		if s := Fresh(arrival); s != (api.State{State: api.Waits, Due: arrival}) {
			t.Errorf("%d: %v", arrival, s)
		}
	}
}

// P15.3: what waits, and what doesn't.
func TestDone(t *testing.T) {
	waits := api.State{Tries: 3, Due: 9, Code: 452}
	ends := []api.State{{State: api.Delivered}, {State: api.Bounced}, {State: api.Discarded}}
	done := func(l ...api.State) bool { return Done(turned(func(j *api.Job) { j.States = l })) }
	for _, s := range ends {
		if !done(s) || !done(s, ends[0], ends[1], ends[2]) {
			t.Errorf("%v isn't done", s)
		}
		for _, l := range [][]api.State{{waits}, {waits, s}, {s, waits}, {s, waits, s}, {s, Fresh(5)}} {
			if done(l...) {
				t.Errorf("%v is done", l)
			}
		}
	}
	if !done() || !Done(api.Job{}) || !done(api.State{State: -1}) {
		t.Error("nothing waits")
	}
}

// P15.3: each thing that a job tells counts.
func TestSame(t *testing.T) {
	for i, turn := range []func(j *api.Job){
		func(j *api.Job) { j.Id++ },
		func(j *api.Job) { j.Arrival++ },
		func(j *api.Job) { j.From.Local = "A b" },
		func(j *api.Job) { j.From.Domain = "X.org" },
		func(j *api.Job) { j.From = api.Addr{} },
		func(j *api.Job) { j.To[1].User = 2 },
		func(j *api.Job) { j.To[2].Addr.Local = "C" },
		func(j *api.Job) { j.To[0].Addr.Domain = "z" },
		func(j *api.Job) { j.To = j.To[:2] },
		func(j *api.Job) { j.To = nil },
		func(j *api.Job) { j.To[0], j.To[1] = j.To[1], j.To[0] },
		func(j *api.Job) { j.States[0].State = 1 },
		func(j *api.Job) { j.States[1].Tries++ },
		func(j *api.Job) { j.States[2].Due++ },
		func(j *api.Job) { j.States[2].Code++ },
		func(j *api.Job) { j.States = j.States[:2] },
		func(j *api.Job) { j.Body = nil },
		func(j *api.Job) { j.Body[0] = 'H' },
		func(j *api.Job) { j.Body = append(j.Body, 0) },
		func(j *api.Job) { *j = api.Job{} },
	} {
		x := turned(turn)
		if Same(x, sample()) || Same(sample(), x) || !Same(x, x) {
			t.Errorf("%d", i)
		}
	}
	if !Same(sample(), sample()) || !Same(api.Job{}, api.Job{}) {
		t.Error("not the same")
	}
	// R3: none and nil are the same.
	if !Same(api.Job{To: []api.Target{}, States: []api.State{}, Body: []byte{}}, api.Job{}) {
		t.Error("lists without elements")
	}
}

// R1: what isn't right is held against others as well.
func TestSameOfOthers(t *testing.T) {
	a := api.Job{Id: -1, To: make([]api.Target, 30), Body: make([]byte, api.MaxMsg+1)}
	b := a
	b.To = slices.Clone(a.To)
	if !Same(a, b) {
		t.Error("not the same")
	}
	if b.To[29].User = 1; Same(a, b) {
		t.Error("the same")
	}
}
