package mbox

import (
	"fmt"
	"math/rand"
	"slices"
	"testing"

	"pigeonhole/api"
	"pigeonhole/record"
)

// plain is a mailbox by the chapter's words: its entries stand in the order in which they came.
type plain struct {
	entries []api.Entry
	next    int
}

// place is the place of the live entry with a number; -1, if there is none.
func (p *plain) place(uid int) int {
	return slices.IndexFunc(p.entries, func(e api.Entry) bool { return e.Uid == uid && !e.Gone })
}

// use is the sum of the live entries' sizes, and how many these are.
func (p *plain) use() api.Use {
	var u api.Use
	for _, e := range p.list(false) {
		u = api.Use{Bytes: u.Bytes + e.Size, Count: u.Count + 1}
	}
	return u
}

// take is Take by the chapter's words.
func (p *plain) take(r api.Rec) bool {
	if record.Check(r) != api.OK {
		return false
	}
	at := p.place(r.Uid)
	switch {
	case r.Kind == api.RecMsg && !slices.ContainsFunc(p.entries, func(e api.Entry) bool { return e.Uid == r.Uid }):
		p.entries = append(p.entries, api.Entry{Uid: r.Uid, Time: r.Time, Flags: r.Flags, Body: r.Body, Size: r.Size, Origin: r.Origin})
		p.next = max(p.next, r.Uid+1)
	case r.Kind == api.RecGone && at >= 0:
		p.entries[at].Gone, p.entries[at].Flags = true, 0
	case r.Kind == api.RecFlag && at >= 0:
		p.entries[at].Flags = r.Flags
	default:
		return false
	}
	return true
}

// list is List by the chapter's words.
func (p *plain) list(gone bool) []api.Entry {
	var l []api.Entry
	for _, e := range p.entries {
		if gone || !e.Gone {
			l = append(l, e)
		}
	}
	slices.SortFunc(l, func(a, b api.Entry) int { return a.Uid - b.Uid })
	return l
}

// from is From by the chapter's words.
func (p *plain) from(origin int) (api.Entry, bool) {
	for _, e := range p.list(true) {
		if e.Origin == origin && origin >= 1 {
			return e, true
		}
	}
	return api.Entry{}, false
}

// records is Records by the chapter's words.
func (p *plain) records(gone bool) []api.Rec {
	var l []api.Rec
	for _, e := range p.list(gone) {
		l = append(l, api.Rec{Kind: 2, Uid: e.Uid, Time: e.Time, Flags: e.Flags, Body: e.Body, Size: e.Size, Origin: e.Origin})
		if e.Gone {
			l = append(l, api.Rec{Kind: 3, Uid: e.Uid})
		}
	}
	return l
}

// bodies is Bodies by the chapter's words.
func (p *plain) bodies() []int {
	var l []int
	for _, e := range p.list(false) {
		if !slices.Contains(l, e.Body) {
			l = append(l, e.Body)
		}
	}
	slices.Sort(l)
	return l
}

// same fails, where a mailbox doesn't tell what a plain one does, or what the chapter says of every mailbox doesn't hold.
func same(t *testing.T, m *Mailbox, p *plain, numbers int) {
	t.Helper()
	if m.Next() != p.next || m.Use() != p.use() || !slices.Equal(m.Bodies(), p.bodies()) {
		t.Fatalf("%d %v %v, not %d %v %v", m.Next(), m.Use(), m.Bodies(), p.next, p.use(), p.bodies())
	}
	for _, gone := range []bool{false, true} {
		if l := m.List(gone); !slices.Equal(l, p.list(gone)) {
			t.Fatalf("List of %v: %v, not %v", gone, l, p.list(gone))
		}
		l := m.Records(gone)
		if fmt.Sprint(l) != fmt.Sprint(p.records(gone)) {
			t.Fatalf("Records of %v: %v, not %v", gone, l, p.records(gone))
		}
		n := of(t, l...)
		if !slices.Equal(n.List(true), m.List(gone)) || n.Use() != m.Use() || n.Next() > m.Next() {
			t.Fatalf("Records of %v make %v", gone, n.List(true))
		}
	}
	for i := -1; i <= numbers; i++ {
		e, ok := m.From(i)
		if f, found := p.from(i); e != f || ok != found {
			t.Fatalf("From of %d: %v, not %v", i, e, f)
		}
		at := slices.IndexFunc(p.entries, func(e api.Entry) bool { return e.Uid == i })
		if e, ok := m.Get(i); ok != (at >= 0) || ok && e != p.entries[at] || !ok && e != (api.Entry{}) {
			t.Fatalf("Get of %d: %v %v", i, e, ok)
		}
	}
}

// drawn is a record with small numbers, now and then one that isn't right.
func drawn(rnd *rand.Rand, numbers int) api.Rec {
	uid := rnd.Intn(numbers)
	r := [...]api.Rec{
		msg(uid, rnd.Intn(3), rnd.Intn(33), rnd.Intn(5), rnd.Intn(4), rnd.Intn(6)), msg(uid, 0, 0, 1, api.MaxMsg+rnd.Intn(2), 1<<53+rnd.Intn(2)),
		gone(uid), flag(uid, rnd.Intn(33)), {Kind: api.RecHead, User: 1, Seq: 1, Next: 7}, {Kind: api.RecSeal, Next: 9}, {Kind: api.RecBody, Body: uid},
	}[[...]int{0, 0, 0, 0, 1, 2, 2, 3, 3, 3, 4, 5, 6}[rnd.Intn(13)]]
	if rnd.Intn(20) == 0 {
		r.Kind = rnd.Intn(9) - 1
	}
	return r
}

// P20.1 to P20.5: drawn calls, against the chapter's words.
func TestDrawn(t *testing.T) {
	for seed := range 3000 {
		rnd := rand.New(rand.NewSource(int64(seed)))
		m, p := New(), &plain{next: 1}
		numbers := 2 + rnd.Intn(12)
		for range 1 + rnd.Intn(40) {
			switch rnd.Intn(8) {
			case 0:
				next := rnd.Intn(numbers + 3)
				m.Raise(next)
				p.next = max(p.next, next)
			case 1:
				r := m.Make(rnd.Intn(3), rnd.Intn(33), rnd.Intn(5), rnd.Intn(4), rnd.Intn(6))
				if r.Uid != p.next || m.Take(r) != p.take(r) {
					t.Fatalf("Make: %v", r)
				}
			case 2:
				other := m
				m = m.Clone()
				for range rnd.Intn(9) {
					other.Take(drawn(rnd, numbers))
					other.Raise(rnd.Intn(99))
				}
			default:
				r := drawn(rnd, numbers)
				if ok, want := m.Take(r), p.take(r); ok != want {
					t.Fatalf("Take of %v: %v, not %v", r, ok, want)
				}
			}
			same(t, m, p, numbers+9)
		}
	}
}

// P20.1, P20.5: many messages, of which many go again.
func TestMany(t *testing.T) {
	m, bytes, count := New(), 0, 0
	for i := range 100000 {
		size := i % (api.MaxMsg + 1)
		if !m.Take(m.Make(i, i%32, 1+i%77, size, 1+i/2)) {
			t.Fatal(i)
		}
		bytes, count = bytes+size, count+1
		if i%3 == 0 {
			if !m.Take(gone(i + 1)) {
				t.Fatal(i)
			}
			bytes, count = bytes-size, count-1
		}
		if e, ok := m.From(1 + i/2); e.Uid != i/2*2+1 || !ok {
			t.Fatal(i, e)
		}
		if m.Use() != (api.Use{Bytes: bytes, Count: count}) || m.Next() != i+2 {
			t.Fatal(i, m.Use(), m.Next())
		}
	}
	if len(m.List(true)) != 100000 || len(m.List(false)) != count || len(m.Bodies()) != 77 {
		t.Errorf("%d %d %d", len(m.List(true)), len(m.List(false)), len(m.Bodies()))
	}
}
