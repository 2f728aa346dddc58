package bodies

import (
	"fmt"
	"math"
	"slices"
	"strings"
	"testing"

	"pigeonhole/api"
	"pigeonhole/crc"
	"pigeonhole/record"
	"pigeonhole/vdisk"
)

// rec is the frame of a body's record.
func rec(n int, b string) string {
	return frameOf(api.Rec{Kind: api.RecBody, Body: n, Data: []byte(b)})
}

// frameOf is the frame of a record that has one.
func frameOf(r api.Rec) string {
	f, e := record.Frame(r)
	if e != api.OK {
		panic(fmt.Sprintf("%v: %d", r, e))
	}
	return string(f)
}

// disk is a disk with files, told as name and bytes in turn.
func disk(room int, told ...string) *vdisk.Disk {
	var l []api.File
	for i := 0; i < len(told); i += 2 {
		l = append(l, api.File{Name: told[i], Data: []byte(told[i+1])})
	}
	d := vdisk.New(l, room)
	if d == nil {
		panic("no disk")
	}
	return d
}

// down lets the power of a disk go.
func down(d *vdisk.Disk) *vdisk.Disk {
	d.Crash(0)
	d.SyncDir()
	return d
}

// files tells all files of a disk, as disk takes them.
func files(d *vdisk.Disk) []string {
	var l []string
	for _, n := range d.Names() {
		b, _ := d.Read(n)
		l = append(l, n, string(b))
	}
	return l
}

// has fails, where a disk hasn't just these files, or something of it isn't sure, or so many calls weren't made.
func has(t *testing.T, what string, d *vdisk.Disk, calls int, told ...string) {
	t.Helper()
	if l := files(d); !slices.Equal(l, told) {
		t.Errorf("%s: files %q, not %q", what, l, told)
	}
	if d.Calls() != calls {
		t.Errorf("%s: %d calls, not %d", what, d.Calls(), calls)
	}
	if turns, writes := d.Waits(); turns != 0 || writes != 0 {
		t.Errorf("%s: %d turns and %d writes wait", what, turns, writes)
	}
}

// opens is the store of a disk that can be opened.
func opens(t *testing.T, d *vdisk.Disk) *Store {
	t.Helper()
	s, e := Open(d)
	if s == nil || e != api.OK {
		t.Fatalf("Open: %v %d", s != nil, e)
	}
	return s
}

// tells is all that a store tells.
func tells(s *Store) string {
	told := fmt.Sprintf("next %d, broken %d", s.Next(), s.Broken())
	for _, n := range s.Numbers() {
		b, ok := s.Get(n)
		least, found := s.Find(b)
		told += fmt.Sprintf("; %d %v %q %d %v", n, ok, b, least, found)
	}
	return told
}

// is fails, where a store doesn't tell this; its bodies are told by rising number, beside which stands the one that Find tells.
func is(t *testing.T, what string, s *Store, next, broken int, bodies ...told) {
	t.Helper()
	want := fmt.Sprintf("next %d, broken %d", next, broken)
	for _, b := range bodies {
		want += fmt.Sprintf("; %d true %q %d true", b.n, b.b, b.least)
	}
	if got := tells(s); got != want {
		t.Errorf("%s: %s, not %s", what, got, want)
	}
}

// told is a body, its number, and the least number that such a body has.
type told struct {
	n     int
	b     string
	least int
}

// putIs fails, where Put doesn't answer this.
func putIs(t *testing.T, s *Store, b string, want int, fault api.Errno) {
	t.Helper()
	if n, e := s.Put([]byte(b)); n != want || e != fault {
		t.Errorf("Put of %.20q: %d %d, not %d %d", b, n, e, want, fault)
	}
}

// findIs fails, where Find doesn't answer this (0: none).
func findIs(t *testing.T, s *Store, b string, want int) {
	t.Helper()
	if n, ok := s.Find([]byte(b)); n != want || ok != (want > 0) {
		t.Errorf("Find of %.20q: %d %v, not %d", b, n, ok, want)
	}
}

// P19.1, P19.3: what a store tells of a file.
func TestOpenFile(t *testing.T) {
	head := frameOf(api.Rec{Kind: api.RecHead, User: 1, Seq: 1, Next: 900, Base: 0})
	msg := frameOf(api.Rec{Kind: api.RecMsg, Uid: 800, Body: 700, Size: 3})
	for what, c := range map[string]struct {
		file         string
		next, broken int
		bodies       []told
	}{
		"no bytes":             {"", 1, 0, nil},
		"one":                  {rec(1, "a"), 2, 0, []told{{1, "a", 1}}},
		"one without bytes":    {rec(1, ""), 2, 0, []told{{1, "", 1}}},
		"a few":                {rec(1, "a") + rec(2, "PQ") + rec(5, ""), 6, 0, []told{{1, "a", 1}, {2, "PQ", 2}, {5, "", 5}}},
		"falling":              {rec(7, "a") + rec(3, "b") + rec(5, "c"), 8, 0, []told{{3, "b", 3}, {5, "c", 5}, {7, "a", 7}}},
		"two alike":            {rec(2, "a") + rec(4, "a"), 5, 0, []told{{2, "a", 2}, {4, "a", 2}}},
		"two alike, falling":   {rec(6, "a") + rec(4, "a") + rec(5, "a"), 7, 0, []told{{4, "a", 4}, {5, "a", 4}, {6, "a", 4}}},
		"a number twice":       {rec(2, "a") + rec(2, "b") + rec(1, "c"), 3, 0, []told{{1, "c", 1}, {2, "a", 2}}},
		"a number thrice":      {rec(2, "") + rec(2, "b") + rec(2, "b") + "x", 3, 1, []told{{2, "", 2}}},
		"the greatest":         {rec(api.MaxUid, "a") + rec(1, "a"), api.MaxUid + 1, 0, []told{{1, "a", 1}, {api.MaxUid, "a", 1}}},
		"the largest":          {rec(1, strings.Repeat("P", api.MaxMsg)), 2, 0, []told{{1, strings.Repeat("P", api.MaxMsg), 1}}},
		"other kinds":          {head + rec(3, "a") + msg, 4, len(head) + len(msg), []told{{3, "a", 3}}},
		"other kinds alone":    {head + msg, 1, len(head) + len(msg), nil},
		"broken ahead":         {"xPx" + rec(3, "a"), 4, 3, []told{{3, "a", 3}}},
		"broken between":       {rec(3, "a") + rec(9, "b")[:9] + rec(4, "c"), 5, 9, []told{{3, "a", 3}, {4, "c", 4}}},
		"broken behind":        {rec(3, "a") + "P\x06", 4, 2, []told{{3, "a", 3}}},
		"broken, and no more":  {"xyz", 1, 3, nil},
		"a number of no body":  {rec(1, "a") + wrapped("\x00\x00\x00\x00a"), 2, len(wrapped("\x00\x00\x00\x00a")), []told{{1, "a", 1}}},
		"a number too great":   {rec(1, "a") + wrapped("\x80\x00\x00\x01a"), 2, len(wrapped("\x80\x00\x00\x01a")), []told{{1, "a", 1}}},
		"too short for a body": {rec(1, "a") + wrapped("\x00\x00\x01"), 2, len(wrapped("\x00\x00\x01")), []told{{1, "a", 1}}},
	} {
		d := disk(100000, "bodies", c.file, "bodies2", "x", "other", "y")
		is(t, what, opens(t, d), c.next, c.broken, c.bodies...)
		has(t, what, d, 0, "bodies", c.file, "bodies2", "x", "other", "y")
	}
}

// wrapped is a frame of a body's kind with any payload.
func wrapped(payload string) string {
	sum := crc.Of([]byte("\x06\x00\x00\x00" + string(rune(len(payload))) + payload))
	b := "\x06\x00\x00\x00" + string(rune(len(payload))) + string([]byte{byte(sum >> 24), byte(sum >> 16), byte(sum >> 8), byte(sum)}) + payload
	return "P" + strings.NewReplacer("P", "Q\x00", "Q", "Q\x01").Replace(b)
}

// P19.1: without a file one is made, for sure; what was left of new ones goes ahead of it.
func TestOpenMakes(t *testing.T) {
	d := disk(10)
	is(t, "none", opens(t, d), 1, 0)
	has(t, "none", d, 4, "bodies", "")
	is(t, "again", opens(t, d), 1, 0)
	has(t, "again", d, 4, "bodies", "")
	d = disk(20, "a.n", "1", "bodies-.n", "2", "bodies.n", "3", "bodies.n.x", "4", "bodiesx", "5", "bodie.n", "6")
	is(t, "new ones", opens(t, d), 1, 0)
	if got, want := d.Names(), []string{"a.n", "bodie.n", "bodies", "bodies.n.x", "bodiesx"}; !slices.Equal(got, want) || d.Calls() != 6 {
		t.Errorf("%q, %d calls", got, d.Calls())
	}
	d = disk(100, "bodies", rec(1, "a"), "bodies.n", rec(1, "b"))
	is(t, "beside a new one", opens(t, d), 2, 0, told{1, "a", 1})
	if got := d.Names(); !slices.Equal(got, []string{"bodies"}) || d.Calls() != 1 {
		t.Errorf("%q, %d calls", got, d.Calls())
	}
}

// P19.1: the errors, in their order.
func TestOpenErrors(t *testing.T) {
	fails := func(what string, d *vdisk.Disk, want api.Errno) {
		t.Helper()
		if s, e := Open(d); s != nil || e != want {
			t.Errorf("%s: %v %d, not %d", what, s != nil, e, want)
		}
	}
	fails("no power", down(disk(10)), api.ErrDown)
	fails("no power, and a file", down(disk(10, "bodies", "x", "bodies.n", "y")), api.ErrDown)
	for n := range 6 {
		d := disk(10, "bodies-.n", "1", "bodies.n", "2")
		d.Fail(n, api.ErrBusy)
		// Each Sync is asked twice.
		if n == 4 || n == 5 {
			is(t, fmt.Sprint("call ", n), opens(t, d), 1, 0)
			continue
		}
		fails(fmt.Sprint("call ", n), d, api.ErrBusy)
		if want := []string{"bodies-.n", "bodies.n"}[min(n, 2):]; !slices.Equal(d.Names(), want) {
			t.Errorf("call %d: %q", n, d.Names())
		}
		is(t, fmt.Sprint("behind call ", n), opens(t, d), 1, 0)
	}
	var many []string
	for i := range api.MaxFiles {
		many = append(many, fmt.Sprint("f", i), "")
	}
	fails("too many files", disk(10, many...), api.ErrFull)
	for n := range 6 {
		d := disk(10, "bodies-.n", "1", "bodies.n", "2")
		d.Crash(n)
		fails(fmt.Sprint("power goes with call ", n), d, api.ErrDown)
		d.Boot(n%4, nil)
		is(t, fmt.Sprint("behind power that goes with call ", n), opens(t, d), 1, 0)
	}
}

// P19.2: the chapter's example, and what is laid for it.
func TestPut(t *testing.T) {
	d := disk(200)
	s := opens(t, d)
	putIs(t, s, "a", 1, api.OK)
	putIs(t, s, "b", 2, api.OK)
	has(t, "two", d, 4+4, "bodies", rec(1, "a")+rec(2, "b"))
	putIs(t, s, "a", 1, api.OK)
	putIs(t, s, "b", 2, api.OK)
	has(t, "again", d, 4+4, "bodies", rec(1, "a")+rec(2, "b"))
	putIs(t, s, "", 3, api.OK)
	putIs(t, s, "PQ\x00", 4, api.OK)
	putIs(t, s, "", 3, api.OK)
	all := rec(1, "a") + rec(2, "b") + rec(3, "") + rec(4, "PQ\x00")
	has(t, "four", d, 4+8, "bodies", all)
	l := []told{{1, "a", 1}, {2, "b", 2}, {3, "", 3}, {4, "PQ\x00", 4}}
	is(t, "four", s, 5, 0, l...)
	is(t, "opened again", opens(t, d), 5, 0, l...)
	if n, e := s.Keep([]int{1}); n != 3 || e != api.OK || s.Next() != 5 {
		t.Errorf("Keep: %d %d %d", n, e, s.Next())
	}
}

// P19.2: a body is put behind whatever stands there, with a number above all that were there.
func TestPutBehind(t *testing.T) {
	for _, c := range []struct {
		file string
		n    int
	}{
		{"", 1}, {"xyz", 1}, {rec(1, "x")[:7], 1}, {rec(1, "x") + rec(2, "y")[:8], 2}, {rec(6, "x") + rec(2, "y") + "P", 7}, {rec(3, "x") + rec(3, "new"), 4}, {rec(api.MaxUid-1, "x"), api.MaxUid},
		{frameOf(api.Rec{Kind: api.RecGone, Uid: 4}), 1},
	} {
		d := disk(200, "bodies", c.file)
		s := opens(t, d)
		broken := s.Broken()
		putIs(t, s, "new", c.n, api.OK)
		has(t, "behind", d, 2, "bodies", c.file+rec(c.n, "new"))
		if s.Broken() != broken || s.Next() != c.n+1 {
			t.Errorf("%q: broken %d, next %d", c.file, s.Broken(), s.Next())
		}
		findIs(t, s, "new", c.n)
		if got, want := tells(opens(t, d)), tells(s); got != want {
			t.Errorf("%q: %s, not %s", c.file, got, want)
		}
	}
}

// P19.2: the least number is found, whatever is like it in size or sum.
func TestFind(t *testing.T) {
	a, b := sameSum()
	d := disk(1000, "bodies", rec(9, b)+rec(4, a)+rec(6, "x")+rec(2, b)+rec(3, "x")+rec(5, "y")+rec(5, "z")+rec(7, a))
	s := opens(t, d)
	for body, want := range map[string]int{a: 4, b: 2, "x": 3, "y": 5, "z": 0, "": 0, "xx": 0, a[:7]: 0, a + "\x00": 0} {
		findIs(t, s, body, want)
		if want > 0 {
			putIs(t, s, body, want, api.OK)
		}
	}
	has(t, "found", d, 0, "bodies", rec(9, b)+rec(4, a)+rec(6, "x")+rec(2, b)+rec(3, "x")+rec(5, "y")+rec(5, "z")+rec(7, a))
	putIs(t, s, "z", 10, api.OK)
	findIs(t, s, "z", 10)
	s = opens(t, disk(1000))
	putIs(t, s, a, 1, api.OK)
	findIs(t, s, b, 0)
	putIs(t, s, b, 2, api.OK)
	findIs(t, s, a, 1)
	findIs(t, s, b, 2)
	findIs(t, opens(t, disk(10)), "", 0)
}

// sameSum is two bodies of one size with one sum.
func sameSum() (string, string) {
	a, b := "plumless", "buckeroo"
	if crc.Of([]byte(a)) != crc.Of([]byte(b)) {
		panic("not alike")
	}
	return a, b
}

// P19.2: the errors of Put, in their order; nothing is changed by them.
func TestPutErrors(t *testing.T) {
	large := strings.Repeat("a", api.MaxMsg+1)
	full := rec(api.MaxUid, "a") + rec(1, "b")
	d := disk(1000, "bodies", full)
	s := opens(t, d)
	before := tells(s)
	putIs(t, s, large, 0, api.ErrLarge)
	putIs(t, s, "a", api.MaxUid, api.OK)
	putIs(t, s, "b", 1, api.OK)
	putIs(t, s, "c", 0, api.ErrFull)
	putIs(t, s, large[1:], 0, api.ErrFull)
	has(t, "full", d, 0, "bodies", full)
	down(d)
	putIs(t, s, large, 0, api.ErrLarge)
	putIs(t, s, "a", api.MaxUid, api.OK)
	putIs(t, s, "c", 0, api.ErrFull)
	if got := tells(s); got != before {
		t.Errorf("%s, not %s", got, before)
	}
	d = disk(40, "bodies", rec(1, "a"))
	s = opens(t, d)
	before = tells(s)
	putIs(t, s, large, 0, api.ErrLarge)
	putIs(t, s, large[1:], 0, api.ErrSpace)
	putIs(t, s, strings.Repeat("b", 40-2*len(rec(1, ""))), 0, api.ErrSpace)
	if got := tells(s); got != before {
		t.Errorf("%s, not %s", got, before)
	}
	has(t, "no room", d, 2, "bodies", rec(1, "a"))
	last := strings.Repeat("b", 40-len(rec(1, "a"))-len(rec(2, "")))
	putIs(t, s, last, 2, api.OK)
	has(t, "just room", d, 4, "bodies", rec(1, "a")+rec(2, last))
	down(d)
	before = tells(s)
	putIs(t, s, "c", 0, api.ErrDown)
	putIs(t, s, last, 2, api.OK)
	if got := tells(s); got != before {
		t.Errorf("%s, not %s", got, before)
	}
	d = disk(40)
	s = opens(t, d)
	d.Unlink("bodies")
	putIs(t, s, "c", 0, api.ErrNone)
	is(t, "no file", s, 1, 0)
}

// P19.2, P19.5: a call that fails changes nothing, unless it was asked twice.
func TestPutFails(t *testing.T) {
	for n, want := range []api.Errno{api.ErrBusy, api.OK, api.OK} {
		d := disk(100, "bodies", rec(1, "a"))
		s := opens(t, d)
		before := tells(s)
		d.Fail(n, api.ErrBusy)
		if want != api.OK {
			putIs(t, s, "b", 0, want)
			has(t, "failed", d, 1, "bodies", rec(1, "a"))
			if got := tells(s); got != before {
				t.Errorf("%s, not %s", got, before)
			}
		}
		putIs(t, s, "b", 2, api.OK)
		if b, _ := d.Read("bodies"); string(b) != rec(1, "a")+rec(2, "b") {
			t.Errorf("call %d fails: %q", n, b)
		}
	}
}

// P19.2: the largest body.
func TestPutLargest(t *testing.T) {
	for _, v := range []string{"a", "P"} {
		most := strings.Repeat(v, api.MaxMsg)
		d := disk(200000)
		s := opens(t, d)
		putIs(t, s, most, 1, api.OK)
		putIs(t, s, most+v, 0, api.ErrLarge)
		putIs(t, s, most[1:], 2, api.OK)
		is(t, "largest", opens(t, d), 3, 0, told{1, most, 1}, told{2, most[1:], 2})
	}
}

// P19.3, R1: any number may be asked for.
func TestGet(t *testing.T) {
	s := opens(t, disk(100, "bodies", rec(1, "a")+rec(3, "")))
	for _, n := range []int{math.MinInt, -1, 0, 2, 4, api.MaxUid, math.MaxInt} {
		if b, ok := s.Get(n); len(b) > 0 || ok {
			t.Errorf("%d: %q %v", n, b, ok)
		}
	}
	if b, ok := s.Get(3); len(b) > 0 || !ok {
		t.Errorf("without bytes: %q %v", b, ok)
	}
	if l := opens(t, disk(9)).Numbers(); len(l) > 0 {
		t.Errorf("%v", l)
	}
}

// P19.5, R4: what is handed in stays and isn't kept, and what is answered is new memory.
func TestMemory(t *testing.T) {
	d := disk(1000)
	s := opens(t, d)
	for _, b := range []string{"abc", ""} {
		room := []byte(b + "behind it")
		if _, e := s.Put(room[:len(b)]); e != api.OK {
			t.Fatal(e)
		}
		if string(room) != b+"behind it" {
			t.Errorf("%q", room)
		}
		clear(room)
	}
	want := tells(s)
	check := func(what string, s *Store) {
		t.Helper()
		l := s.Numbers()
		l = append(l[:1], 7, 8, 9)
		l[0] = 5
		for n := range 4 {
			b, _ := s.Get(n)
			b = append(b, "more"...)
			clear(b)
		}
		if got := tells(s); got != want {
			t.Errorf("%s: %s, not %s", what, got, want)
		}
	}
	check("put", s)
	check("opened", opens(t, d))
	kept := []int{9, 2, 1, 2, 4}
	told := kept[:3]
	if n, e := s.Keep(told); n != 0 || e != api.OK {
		t.Errorf("%d %d", n, e)
	}
	putIs(t, s, "z", 3, api.OK)
	if n, e := s.Keep(told); n != 1 || e != api.OK || !slices.Equal(kept, []int{9, 2, 1, 2, 4}) {
		t.Errorf("%d %d %v", n, e, kept)
	}
	want = tells(s)
	check("kept", s)
}
