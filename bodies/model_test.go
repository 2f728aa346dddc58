package bodies

import (
	"fmt"
	"math/rand"
	"slices"
	"strings"
	"testing"

	"pigeonhole/api"
	"pigeonhole/frame"
	"pigeonhole/record"
	"pigeonhole/safe"
	"pigeonhole/vdisk"
)

// plain is a store by the chapter's words, in lists.
type plain struct {
	d       *vdisk.Disk
	numbers []int
	bodies  []string
	next    int
	broken  int
	cut     bool
}

// plainOpen is Open by the chapter's words.
func plainOpen(d *vdisk.Disk) (*plain, api.Errno) {
	if d.Down() {
		return nil, api.ErrDown
	}
	if e := safe.Tidy(d, "bodies"); e != api.OK {
		return nil, e
	}
	if !slices.Contains(d.Names(), "bodies") {
		if e := safe.Make(d, "bodies", nil); e != api.OK {
			return nil, e
		}
	}
	x := &plain{d: d}
	x.read()
	return x, api.OK
}

// read tells what stands in the file.
func (x *plain) read() {
	b, _ := x.d.Read("bodies")
	x.numbers, x.bodies, x.next, x.broken, x.cut = nil, nil, 1, len(b), false
	fs, _ := frame.Scan(b)
	for _, f := range fs {
		r, e := record.Read(f.Kind, f.Payload)
		if e != api.OK || r.Kind != api.RecBody {
			continue
		}
		x.broken -= f.Len
		x.next = max(x.next, r.Body+1)
		if !slices.Contains(x.numbers, r.Body) {
			x.numbers, x.bodies = append(x.numbers, r.Body), append(x.bodies, string(r.Data))
		}
	}
}

// again reads the file, if the power went within a call and is there.
func (x *plain) again() {
	if _, e := x.d.Size("bodies"); x.cut && e == api.OK {
		x.read()
	}
}

// find is Find by the chapter's words.
func (x *plain) find(b string) (int, bool) {
	least := 0
	for i, n := range x.numbers {
		if x.bodies[i] == b && (least == 0 || n < least) {
			least = n
		}
	}
	return least, least != 0
}

// put is Put by the chapter's words.
func (x *plain) put(b string) (int, api.Errno) {
	if len(b) > 32768 {
		return 0, api.ErrLarge
	}
	x.again()
	if n, ok := x.find(b); ok {
		return n, api.OK
	}
	if x.next > 1<<31 {
		return 0, api.ErrFull
	}
	if e := safe.Append(x.d, "bodies", []byte(rec(x.next, b))); e != api.OK {
		x.cut = x.cut || e == api.ErrDown
		return 0, e
	}
	x.numbers, x.bodies = append(x.numbers, x.next), append(x.bodies, b)
	x.next++
	return x.next - 1, api.OK
}

// keep is Keep by the chapter's words.
func (x *plain) keep(l []int) (int, api.Errno) {
	x.again()
	out, greatest, laid := 0, 0, ""
	numbers := slices.Sorted(slices.Values(x.numbers))
	for _, n := range numbers {
		b := x.bodies[slices.Index(x.numbers, n)]
		if !slices.Contains(l, n) && (b != "" || n != x.next-1) {
			out++
			continue
		}
		greatest, laid = n, laid+rec(n, b)
	}
	if out == 0 && x.broken == 0 {
		return 0, api.OK
	}
	if greatest+1 < x.next {
		laid += rec(x.next-1, "")
	}
	if e := safe.Swap(x.d, "bodies", []byte(laid)); e != api.OK {
		x.cut = x.cut || e == api.ErrDown
		return 0, e
	}
	x.read()
	return out, api.OK
}

// tells is what tells tells.
func (x *plain) tells() string {
	told := fmt.Sprintf("next %d, broken %d", x.next, x.broken)
	for _, n := range slices.Sorted(slices.Values(x.numbers)) {
		b := x.bodies[slices.Index(x.numbers, n)]
		least, found := x.find(b)
		told += fmt.Sprintf("; %d true %q %d %v", n, b, least, found)
	}
	return told
}

// drawnBody is a body, often one that is there already, or is like one in size or sum.
func drawnBody(r *rand.Rand) string {
	l := []string{"", "", "a", "b", "P", "Q", "PP", "QP", "plumless", "buckeroo", "\x00", "\x00\x00", rec(2, "a"), rec(9, "P")[:9]}
	if r.Intn(60) == 0 {
		return strings.Repeat("x", api.MaxMsg+r.Intn(2))
	}
	return l[r.Intn(len(l))]
}

// drawnFile is a file's bytes: records, of which some are broken, of other kinds, or have a number that was there.
func drawnFile(r *rand.Rand) string {
	b := ""
	for range r.Intn(6) {
		f := rec(1+r.Intn(7), drawnShort(r))
		switch r.Intn(14) {
		case 0:
			f = frameOf(api.Rec{Kind: api.RecGone, Uid: 1 + r.Intn(90)})
		case 1:
			f = f[:r.Intn(len(f))]
		case 2:
			f = "x" + f
		case 3:
			f = strings.Replace(f, "\x00", "\x01", 1)
		}
		b += f
	}
	if r.Intn(30) == 0 {
		b += rec(api.MaxUid-r.Intn(2), drawnShort(r))
	}
	return b
}

// drawnShort is a body that isn't long.
func drawnShort(r *rand.Rand) string {
	for {
		if b := drawnBody(r); len(b) < 100 {
			return b
		}
	}
}

// pair is a store and one by the chapter's words, on twin disks.
type pair struct {
	d, p *vdisk.Disk
	s    *Store
	x    *plain
}

// drawnPair is a pair on drawn disks.
func drawnPair(r *rand.Rand) *pair {
	var l []string
	if r.Intn(4) > 0 {
		l = append(l, "bodies", drawnFile(r))
	}
	if r.Intn(4) == 0 {
		l = append(l, "bodies.n", drawnFile(r))
	}
	if r.Intn(4) == 0 {
		l = append(l, "bodies.n.n", "x", "b", "y")
	}
	room := 1
	for _, s := range l {
		room += len(s)
	}
	room += r.Intn(400)
	w := &pair{d: disk(room, l...), p: disk(room, l...)}
	w.opens()
	return w
}

// opens opens both anew, and tells whether they answer the same.
func (w *pair) opens() bool {
	s, e := Open(w.d)
	x, f := plainOpen(w.p)
	if s != nil {
		w.s, w.x = s, x
	}
	return e == f && (s == nil) == (e != api.OK)
}

// disturb arms a failure or a crash on both disks, or lets the power come again.
func (w *pair) disturb(r *rand.Rand) {
	n := r.Intn(8)
	if w.d.Down() {
		turns, keep := r.Intn(5)-1, []int{r.Intn(40) - 1, r.Intn(40)}
		w.d.Boot(turns, keep)
		w.p.Boot(turns, keep)
		return
	}
	if r.Intn(2) == 0 {
		e := api.Errno(r.Intn(18))
		w.d.Fail(n, e)
		w.p.Fail(n, e)
		return
	}
	w.d.Crash(n)
	w.p.Crash(n)
}

// call makes a drawn call of both, and tells what they answer.
func (w *pair) call(r *rand.Rand) (what, got, want string) {
	if w.s == nil || r.Intn(10) == 0 {
		return "Open", fmt.Sprint(w.opens()), "true"
	}
	switch b := drawnBody(r); r.Intn(6) {
	case 0:
		var l []int
		for range r.Intn(6) {
			l = append(l, r.Intn(10)-1)
		}
		if r.Intn(3) == 0 {
			l = append(l, w.s.Numbers()...)
		}
		n, e := w.s.Keep(l)
		m, f := w.x.keep(l)
		return "Keep", fmt.Sprint(n, e), fmt.Sprint(m, f)
	case 1:
		n, ok := w.s.Find([]byte(b))
		m, is := w.x.find(b)
		return "Find", fmt.Sprint(n, ok), fmt.Sprint(m, is)
	case 2:
		n := r.Intn(12) - 1
		got, ok := w.s.Get(n)
		want := ""
		i := slices.Index(w.x.numbers, n)
		if i >= 0 {
			want = w.x.bodies[i]
		}
		return "Get", fmt.Sprint(string(got), ok), fmt.Sprint(want, i >= 0)
	default:
		n, e := w.s.Put([]byte(b))
		m, f := w.x.put(b)
		return "Put", fmt.Sprint(n, e), fmt.Sprint(m, f)
	}
}

// all is all that can be seen of a disk.
func all(d *vdisk.Disk) string {
	turns, writes := d.Waits()
	return fmt.Sprintf("%v %d %d %d %q", d.Down(), d.Calls(), turns, writes, files(d))
}

// P19.1 to P19.4: drawn calls on drawn disks, of which some calls fail, and whose power goes and comes, answer and leave what the chapter's words do.
func TestAgainstWords(t *testing.T) {
	for seed := range 2000 {
		r := rand.New(rand.NewSource(int64(seed)))
		w := drawnPair(r)
		for i := range 40 {
			if r.Intn(3) == 0 {
				w.disturb(r)
			}
			what, got, want := w.call(r)
			if got != want {
				t.Fatalf("seed %d, call %d: %s: %s, not %s", seed, i, what, got, want)
			}
			if s, p := all(w.d), all(w.p); s != p {
				t.Fatalf("seed %d, call %d: %s: %s, not %s", seed, i, what, s, p)
			}
			if w.s != nil && tells(w.s) != w.x.tells() {
				t.Fatalf("seed %d, call %d: %s: %s, not %s", seed, i, what, tells(w.s), w.x.tells())
			}
		}
	}
}

// lasting is what must be there of a store behind any crash: the bodies that it said to have, by their numbers; and which body was the first with each number.
type lasting struct {
	d     *vdisk.Disk
	s     *Store
	there map[int]string
	first map[int]string
}

// looks fails, where a body isn't there that must be, or has a number that another one had.
func (x *lasting) looks(t *testing.T, s *Store) {
	t.Helper()
	for n, b := range x.there {
		if got, ok := s.Get(n); string(got) != b || !ok {
			t.Fatalf("%d is %q %v, not %q", n, got, ok, b)
		}
	}
	for _, n := range s.Numbers() {
		got, _ := s.Get(n)
		was, had := x.first[n]
		if !had {
			x.first[n] = string(got)
		}
		if had && len(got) > 0 && was != string(got) {
			t.Fatalf("%d is %q, and was %q", n, got, was)
		}
	}
}

// change makes a drawn call that changes.
func (x *lasting) change(t *testing.T, r *rand.Rand) {
	t.Helper()
	if r.Intn(5) > 0 {
		b := fmt.Sprint("body ", r.Intn(40))
		n, e := x.s.Put([]byte(b))
		if e == api.OK {
			x.there[n] = b
		}
		return
	}
	l, left := []int{}, map[int]string{}
	for n, b := range x.there {
		if r.Intn(2) == 0 {
			l, left[n] = append(l, n), b
		}
	}
	slices.Sort(l)
	// A Keep that was cut off may have left out what it was to, or not.
	if _, e := x.s.Keep(l); e == api.OK || e == api.ErrDown {
		x.there = left
	}
}

// P19.5: drawn calls on a disk that is small, that fails, and whose power goes and comes, of stores that go on behind that, or are opened anew: no body is lost for which Put answered OK, and no number is given to another body.
func TestLasting(t *testing.T) {
	for seed := range 2000 {
		r := rand.New(rand.NewSource(int64(seed)))
		x := &lasting{d: disk(100 + r.Intn(900)), there: map[int]string{}, first: map[int]string{}}
		x.s = opens(t, x.d)
		for range 40 {
			if r.Intn(3) == 0 {
				x.d.Fail(r.Intn(6), api.ErrBusy)
			}
			if r.Intn(6) == 0 {
				x.d.Crash(r.Intn(8))
			}
			x.change(t, r)
			x.looks(t, x.s)
			if x.d.Down() {
				x.d.Boot(r.Intn(5), []int{r.Intn(50) - 1})
			}
			if r.Intn(4) == 0 {
				x.d.Fail(-1, api.OK)
				x.d.Crash(-1)
				s := opens(t, x.d)
				x.looks(t, s)
				if r.Intn(2) == 0 {
					x.s = s
				}
			}
		}
	}
}
