package mbox

import (
	"fmt"
	"math"
	"slices"
	"testing"

	"pigeonhole/api"
)

// msg is the record of a message.
func msg(uid, time, flags, body, size, origin int) api.Rec {
	return api.Rec{Kind: api.RecMsg, Uid: uid, Time: time, Flags: flags, Body: body, Size: size, Origin: origin}
}

// gone is the record that a message is gone.
func gone(uid int) api.Rec {
	return api.Rec{Kind: api.RecGone, Uid: uid}
}

// flag is the record of a message's flags.
func flag(uid, flags int) api.Rec {
	return api.Rec{Kind: api.RecFlag, Uid: uid, Flags: flags}
}

// of is a mailbox that was given records, each of which it takes.
func of(t *testing.T, l ...api.Rec) *Mailbox {
	t.Helper()
	m := New()
	for _, r := range l {
		takes(t, m, r, true)
	}
	return m
}

// takes fails, where a mailbox doesn't answer this to a record.
func takes(t *testing.T, m *Mailbox, r api.Rec, want bool) {
	t.Helper()
	if ok := m.Take(r); ok != want {
		t.Errorf("Take of %v: %v", r, ok)
	}
}

// tells is all that a mailbox tells of its entries, its use and its next number.
func tells(m *Mailbox) string {
	told := fmt.Sprintf("next %d, use %v, %v, %v, bodies %v, %v, %v", m.Next(), m.Use(), m.List(true), m.List(false), m.Bodies(), m.Records(true), m.Records(false))
	for _, e := range m.List(true) {
		g, ok := m.Get(e.Uid)
		f, found := m.From(e.Origin)
		told += fmt.Sprintf("; %v %v %v %v", g, ok, f, found)
	}
	return told
}

// is fails, where a mailbox hasn't this next number, this use, and these entries.
func is(t *testing.T, what string, m *Mailbox, next, bytes, count int, l ...api.Entry) {
	t.Helper()
	if m.Next() != next {
		t.Errorf("%s: the next number is %d, not %d", what, m.Next(), next)
	}
	if u := m.Use(); u != (api.Use{Bytes: bytes, Count: count}) {
		t.Errorf("%s: the use is %v, not %d of %d", what, u, bytes, count)
	}
	if got := m.List(true); !slices.Equal(got, l) {
		t.Errorf("%s: %v, not %v", what, got, l)
	}
}

// P20.1, P20.3: a mailbox begins without anything.
func TestNew(t *testing.T) {
	m := New()
	is(t, "a new mailbox", m, 1, 0, 0)
	if l := m.Bodies(); len(l) != 0 {
		t.Errorf("bodies %v", l)
	}
	for _, all := range []bool{false, true} {
		if l, r := m.List(all), m.Records(all); len(l) != 0 || len(r) != 0 {
			t.Errorf("%v %v", l, r)
		}
	}
}

// P20.1, P20.5: what the chapter's example tells.
func TestExample(t *testing.T) {
	m := New()
	takes(t, m, msg(1, 0, 0, 1, 5, 0), true)
	takes(t, m, msg(1, 0, 0, 1, 7, 0), false)
	is(t, "one", m, 2, 5, 1, api.Entry{Uid: 1, Body: 1, Size: 5})
	takes(t, m, gone(1), true)
	takes(t, m, gone(1), false)
	is(t, "gone", m, 2, 0, 0, api.Entry{Uid: 1, Body: 1, Size: 5, Gone: true})
}

// P20.1: a message that is taken has the record's fields, be they the least or the greatest ones.
func TestTakeMsg(t *testing.T) {
	least := msg(1, 0, 0, 1, 0, 0)
	greatest := msg(api.MaxUid, api.MaxTime, 31, api.MaxUid, api.MaxMsg, 1<<53)
	m := of(t, least)
	is(t, "least", m, 2, 0, 1, api.Entry{Uid: 1, Body: 1})
	m = of(t, greatest, least)
	is(t, "both", m, api.MaxUid+1, api.MaxMsg, 2, api.Entry{Uid: 1, Body: 1},
		api.Entry{Uid: api.MaxUid, Time: api.MaxTime, Flags: 31, Body: api.MaxUid, Size: api.MaxMsg, Origin: 1 << 53})
	takes(t, m, api.Rec{Kind: api.RecMsg, Uid: 2, Body: 1, Data: []byte{}}, true)
}

// P20.1: records that aren't right, or of other kinds, are passed over, and change nothing.
func TestTakeWrong(t *testing.T) {
	wrong := []api.Rec{
		{}, {Kind: -1}, {Kind: 7}, {Kind: math.MaxInt}, {Kind: math.MinInt},
		msg(0, 0, 0, 1, 1, 0), msg(-1, 0, 0, 1, 1, 0), msg(api.MaxUid+1, 0, 0, 1, 1, 0), msg(math.MaxInt, 0, 0, 1, 1, 0), msg(math.MinInt, 0, 0, 1, 1, 0),
		msg(9, -1, 0, 1, 1, 0), msg(9, api.MaxTime+1, 0, 1, 1, 0),
		msg(9, 0, -1, 1, 1, 0), msg(9, 0, 32, 1, 1, 0),
		msg(9, 0, 0, 0, 1, 0), msg(9, 0, 0, api.MaxUid+1, 1, 0),
		msg(9, 0, 0, 1, -1, 0), msg(9, 0, 0, 1, api.MaxMsg+1, 0), msg(9, 0, 0, 1, math.MaxInt, 0),
		msg(9, 0, 0, 1, 1, -1), msg(9, 0, 0, 1, 1, 1<<53+1),
		{Kind: api.RecMsg, Uid: 9, Body: 1, User: 1}, {Kind: api.RecMsg, Uid: 9, Body: 1, Seq: 1}, {Kind: api.RecMsg, Uid: 9, Body: 1, Next: 1}, {Kind: api.RecMsg, Uid: 9, Body: 1, Base: 1},
		{Kind: api.RecMsg, Uid: 9, Body: 1, Data: []byte("a")},
		gone(0), gone(-5), gone(api.MaxUid + 1), {Kind: api.RecGone, Uid: 5, Flags: 1}, {Kind: api.RecGone, Uid: 5, Size: 5}, {Kind: api.RecGone, Uid: 5, Data: []byte("a")},
		flag(0, 1), flag(5, -1), flag(5, 32), {Kind: api.RecFlag, Uid: 5, Flags: 1, Body: 1}, {Kind: api.RecFlag, Uid: 5, Flags: 1, Data: []byte("a")},
		{Kind: api.RecHead, User: 1, Seq: 1, Next: 90, Base: 0}, {Kind: api.RecSeal, Next: 90}, {Kind: api.RecBody, Body: 90, Data: []byte("a")},
		// Ones that are right, but not for these entries.
		msg(5, 0, 0, 1, 1, 0), msg(7, 0, 0, 1, 1, 0), gone(6), gone(7), gone(8), flag(6, 1), flag(7, 1), flag(8, 1),
	}
	m := of(t, msg(5, 1, 3, 2, 10, 4), msg(7, 1, 3, 2, 20, 6), gone(7))
	before := tells(m)
	for _, r := range wrong {
		takes(t, m, r, false)
		if s := tells(m); s != before {
			t.Fatalf("%v changed %s to %s", r, before, s)
		}
	}
}

// P20.1, P20.5: what is gone has no flags, isn't in the use, and is taken no more; its number isn't given again.
func TestTakeGone(t *testing.T) {
	m := of(t, msg(4, 2, 31, 7, 10, 3), msg(2, 1, 8, 7, 5, 3), gone(4))
	is(t, "gone", m, 5, 5, 1, api.Entry{Uid: 2, Time: 1, Flags: 8, Body: 7, Size: 5, Origin: 3},
		api.Entry{Uid: 4, Time: 2, Body: 7, Size: 10, Origin: 3, Gone: true})
	for _, r := range []api.Rec{gone(4), flag(4, 1), flag(4, 0), msg(4, 2, 31, 7, 10, 3)} {
		takes(t, m, r, false)
	}
	takes(t, m, gone(2), true)
	is(t, "all gone", m, 5, 0, 0, api.Entry{Uid: 2, Time: 1, Body: 7, Size: 5, Origin: 3, Gone: true},
		api.Entry{Uid: 4, Time: 2, Body: 7, Size: 10, Origin: 3, Gone: true})
}

// P20.1: flags are those that were taken last.
func TestTakeFlag(t *testing.T) {
	m := of(t, msg(4, 2, 31, 7, 10, 3), msg(5, 0, 1, 1, 1, 1))
	for _, flags := range []int{0, 31, 31, 5} {
		takes(t, m, flag(4, flags), true)
		is(t, "flags", m, 6, 11, 2, api.Entry{Uid: 4, Time: 2, Flags: flags, Body: 7, Size: 10, Origin: 3},
			api.Entry{Uid: 5, Flags: 1, Body: 1, Size: 1, Origin: 1})
	}
}

// P20.1, P20.5: the next number never falls, and is never above the greatest one and one.
func TestRaise(t *testing.T) {
	m := New()
	for _, c := range []struct{ next, want int }{
		{math.MinInt, 1}, {-1, 1}, {0, 1}, {1, 1}, {2, 2}, {1, 2}, {100, 100}, {99, 100}, {math.MaxInt, 100}, {api.MaxUid + 2, 100},
		{api.MaxUid, api.MaxUid}, {api.MaxUid + 1, api.MaxUid + 1}, {api.MaxUid + 2, api.MaxUid + 1}, {5, api.MaxUid + 1},
	} {
		if m.Raise(c.next); m.Next() != c.want {
			t.Errorf("Raise to %d: %d, not %d", c.next, m.Next(), c.want)
		}
	}
	is(t, "raised", m, api.MaxUid+1, 0, 0)
	takes(t, m, msg(3, 0, 0, 1, 1, 0), true)
	is(t, "a message behind it", m, api.MaxUid+1, 1, 1, api.Entry{Uid: 3, Body: 1, Size: 1})
}

// P20.1, P20.5: the next number is above each message's, and no lower one lets it fall.
func TestNext(t *testing.T) {
	m := New()
	for _, c := range []struct{ uid, want int }{{3, 4}, {1, 4}, {4, 5}, {9, 10}, {8, 10}, {api.MaxUid - 1, api.MaxUid}, {api.MaxUid, api.MaxUid + 1}, {2, api.MaxUid + 1}} {
		takes(t, m, msg(c.uid, 0, 0, 1, 0, 0), true)
		if m.Next() != c.want {
			t.Errorf("behind %d: %d, not %d", c.uid, m.Next(), c.want)
		}
	}
	m.Raise(20)
	takes(t, m, gone(api.MaxUid), true)
	if m.Next() != api.MaxUid+1 {
		t.Errorf("behind what is gone: %d", m.Next())
	}
}

// P20.2: Make tells what it is given, right or not, under the next number, and changes nothing.
func TestMake(t *testing.T) {
	m := of(t, msg(4, 2, 31, 7, 10, 3))
	before := tells(m)
	for _, c := range [][5]int{
		{0, 0, 1, 0, 0}, {1, 2, 3, 4, 5}, {api.MaxTime, 31, api.MaxUid, api.MaxMsg, 1 << 53},
		{-1, -2, -3, -4, -5}, {math.MaxInt, math.MaxInt, math.MaxInt, math.MaxInt, math.MaxInt}, {math.MinInt, math.MinInt, math.MinInt, math.MinInt, math.MinInt},
	} {
		r, want := m.Make(c[0], c[1], c[2], c[3], c[4]), msg(5, c[0], c[1], c[2], c[3], c[4])
		if fmt.Sprintf("%#v", r) != fmt.Sprintf("%#v", want) {
			t.Errorf("Make of %v: %v", c, r)
		}
	}
	if s := tells(m); s != before {
		t.Errorf("Make changed %s to %s", before, s)
	}
	takes(t, m, m.Make(1, 2, 3, 4, 5), true)
	takes(t, m, m.Make(1, 2, 3, 4, 5), true)
	is(t, "made", m, 7, 18, 3, api.Entry{Uid: 4, Time: 2, Flags: 31, Body: 7, Size: 10, Origin: 3},
		api.Entry{Uid: 5, Time: 1, Flags: 2, Body: 3, Size: 4, Origin: 5}, api.Entry{Uid: 6, Time: 1, Flags: 2, Body: 3, Size: 4, Origin: 5})
}

// P20.2: where no number is left, Make tells one beyond, which isn't taken.
func TestMakeBeyond(t *testing.T) {
	m := of(t, msg(api.MaxUid, 0, 0, 1, 1, 0))
	r := m.Make(0, 0, 1, 1, 0)
	if r.Uid != api.MaxUid+1 {
		t.Errorf("%v", r)
	}
	takes(t, m, r, false)
	is(t, "full", m, api.MaxUid+1, 1, 1, api.Entry{Uid: api.MaxUid, Body: 1, Size: 1})
}

// P20.3: entries are answered by their numbers, gone or not.
func TestGet(t *testing.T) {
	m := of(t, msg(5, 1, 2, 3, 4, 6), msg(7, 0, 9, 1, 2, 0), gone(7))
	for uid, want := range map[int]api.Entry{
		5: {Uid: 5, Time: 1, Flags: 2, Body: 3, Size: 4, Origin: 6}, 7: {Uid: 7, Body: 1, Size: 2, Gone: true},
		6: {}, 8: {}, 0: {}, -5: {}, math.MaxInt: {}, math.MinInt: {},
	} {
		if e, ok := m.Get(uid); e != want || ok != (want != api.Entry{}) {
			t.Errorf("Get of %d: %v %v", uid, e, ok)
		}
	}
}

// P20.3: lists are by rising number, whatever the order in which the messages came, and have what is gone if it is asked for.
func TestList(t *testing.T) {
	m := of(t, msg(9, 0, 0, 1, 1, 0), msg(2, 0, 0, 1, 1, 0), msg(5, 0, 0, 1, 1, 0), msg(3, 0, 0, 1, 1, 0), msg(10, 0, 0, 1, 1, 0), gone(5), gone(2))
	for all, want := range map[bool][]int{true: {2, 3, 5, 9, 10}, false: {3, 9, 10}} {
		var l []int
		for _, e := range m.List(all) {
			l = append(l, e.Uid)
			if e.Gone != (e.Uid == 5 || e.Uid == 2) {
				t.Errorf("%v", e)
			}
		}
		if !slices.Equal(l, want) {
			t.Errorf("List of %v: %v, not %v", all, l, want)
		}
	}
}

// P20.3: of the entries of an origin the one with the least number is answered, gone or not.
func TestFrom(t *testing.T) {
	m := of(t, msg(6, 0, 0, 1, 1, 8), msg(7, 0, 0, 1, 1, 0), msg(9, 0, 0, 1, 1, 1), msg(8, 0, 0, 1, 1, 1<<53))
	fromIs := func(origin, uid int, gone bool) {
		t.Helper()
		if e, ok := m.From(origin); e.Uid != uid || e.Gone != gone || ok != (uid > 0) || !ok && e != (api.Entry{}) {
			t.Errorf("From of %d: %v %v, not %d", origin, e, ok, uid)
		}
	}
	for _, origin := range []int{0, -1, -8, 2, 7, 6, 1<<53 - 1, 1<<53 + 1, math.MaxInt, math.MinInt} {
		fromIs(origin, 0, false)
	}
	fromIs(8, 6, false)
	fromIs(1, 9, false)
	fromIs(1<<53, 8, false)
	takes(t, m, msg(20, 0, 0, 1, 1, 8), true)
	fromIs(8, 6, false)
	takes(t, m, gone(6), true)
	fromIs(8, 6, true)
	takes(t, m, msg(4, 0, 0, 1, 1, 8), true)
	fromIs(8, 4, false)
	takes(t, m, msg(5, 0, 0, 1, 1, 8), true)
	takes(t, m, gone(4), true)
	fromIs(8, 4, true)
}

// P20.3: an entry's flags are told as they are now, by its origin too.
func TestFromNow(t *testing.T) {
	m := of(t, msg(6, 1, 2, 3, 4, 8), flag(6, 5))
	if e, ok := m.From(8); e != (api.Entry{Uid: 6, Time: 1, Flags: 5, Body: 3, Size: 4, Origin: 8}) || !ok {
		t.Errorf("%v %v", e, ok)
	}
}

// P20.3: bodies are those that live entries have, each once.
func TestBodies(t *testing.T) {
	m := of(t, msg(1, 0, 0, 7, 1, 0), msg(2, 0, 0, 3, 1, 0), msg(3, 0, 0, 7, 1, 0), msg(4, 0, 0, 3, 1, 0), msg(5, 0, 0, 9, 1, 0), msg(6, 0, 0, api.MaxUid, 0, 0))
	for _, c := range []struct {
		uid  int
		want []int
	}{{5, []int{3, 7, api.MaxUid}}, {1, []int{3, 7, api.MaxUid}}, {3, []int{3, api.MaxUid}}, {6, []int{3}}, {2, []int{3}}, {4, nil}} {
		takes(t, m, gone(c.uid), true)
		if l := m.Bodies(); !slices.Equal(l, c.want) {
			t.Errorf("without %d: %v, not %v", c.uid, l, c.want)
		}
	}
}

// P20.4: the records are by rising number, with the flags that the entries have now.
func TestRecords(t *testing.T) {
	m := of(t, msg(9, 1, 2, 3, 4, 5), msg(2, 6, 7, 8, 9, 10), msg(5, 0, 31, 1, 1, 0), flag(9, 3), flag(2, 1), gone(2))
	for all, want := range map[bool][]api.Rec{
		true:  {msg(2, 6, 0, 8, 9, 10), gone(2), msg(5, 0, 31, 1, 1, 0), msg(9, 1, 3, 3, 4, 5)},
		false: {msg(5, 0, 31, 1, 1, 0), msg(9, 1, 3, 3, 4, 5)},
	} {
		l := m.Records(all)
		if fmt.Sprintf("%#v", l) != fmt.Sprintf("%#v", want) {
			t.Errorf("Records of %v: %v, not %v", all, l, want)
		}
		n := of(t, l...)
		if !slices.Equal(n.List(true), m.List(all)) || n.Use() != m.Use() {
			t.Errorf("Records of %v make %v of %v", all, n.List(true), n.Use())
		}
	}
}

// P20.4: what comes to a mailbox, goes or is changed in it isn't in the one that was made like it, nor the other way.
func TestClone(t *testing.T) {
	changes := map[string]func(*Mailbox){
		"a message":   func(m *Mailbox) { m.Take(msg(50, 0, 0, 1, 1, 90)) },
		"a least one": func(m *Mailbox) { m.Take(msg(1, 0, 0, 1, 1, 5)) },
		"gone":        func(m *Mailbox) { m.Take(gone(9)) },
		"flags":       func(m *Mailbox) { m.Take(flag(9, 1)) },
		"the number":  func(m *Mailbox) { m.Raise(1000) },
	}
	for what, change := range changes {
		m := of(t, msg(9, 1, 2, 3, 4, 5), msg(2, 6, 7, 8, 9, 10), gone(2))
		m.Raise(30)
		c, before := m.Clone(), tells(m)
		if s := tells(c); s != before {
			t.Fatalf("%s, not %s", s, before)
		}
		change(c)
		changed := tells(c)
		if s := tells(m); s != before || changed == before {
			t.Errorf("%s: %s, not %s", what, s, before)
		}
		if _, ok := m.From(90); ok {
			t.Errorf("%s: From", what)
		}
		change(m)
		c.Take(gone(9))
		if s := tells(m); s != changed {
			t.Errorf("%s: %s, not %s", what, s, changed)
		}
	}
}

// P20.4: a mailbox without entries can be made again as well.
func TestCloneEmpty(t *testing.T) {
	m := New()
	c := m.Clone()
	takes(t, c, msg(1, 0, 0, 1, 1, 1), true)
	is(t, "the first", m, 1, 0, 0)
	is(t, "the second", c, 2, 1, 1, api.Entry{Uid: 1, Body: 1, Size: 1, Origin: 1})
}

// P20.5: what is answered may be written over and grown.
func TestMemory(t *testing.T) {
	m := of(t, msg(9, 1, 2, 3, 4, 5), msg(2, 6, 7, 8, 9, 10), msg(3, 1, 1, 8, 1, 1), gone(2))
	before := tells(m)
	for _, all := range []bool{false, true} {
		l, r, b := m.List(all), m.Records(all), m.Bodies()
		for _, l := range [][]api.Entry{l, append(l, api.Entry{})} {
			clear(l)
		}
		for _, r := range [][]api.Rec{r, append(r, api.Rec{})} {
			clear(r)
		}
		for _, b := range [][]int{b, append(b, 0)} {
			clear(b)
		}
		if s := tells(m); s != before {
			t.Errorf("%s, not %s", s, before)
		}
	}
}
