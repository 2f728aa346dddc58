package dbox

import (
	"fmt"
	"math/rand"
	"slices"
	"strings"
	"testing"

	"pigeonhole/api"
	"pigeonhole/frame"
	"pigeonhole/record"
	"pigeonhole/safe"
	"pigeonhole/vdisk"
)

// plain is a box by the chapter's words: what it found and did, while all else is looked up on the disk.
type plain struct {
	d            *vdisk.Disk
	user, bound  int
	l            []int
	next, broken int
	places       []api.Place
}

// seqOf is the number of a user's container with that name, 0 if it is none, -1 if it only begins as one.
func seqOf(user int, name string) int {
	if !strings.HasPrefix(name, fmt.Sprintf("c%03d-", user)) {
		return 0
	}
	for n := range 30 {
		if name == fmt.Sprintf("c%03d-%08d", user, n+1) {
			return n + 1
		}
	}
	return -1
}

// plainRecords are the records in bytes, each beside the frame that it has.
func plainRecords(b []byte) (rs []api.Rec, fs []api.Frame) {
	l, _ := frame.Scan(b)
	for _, f := range l {
		if r, e := record.Read(f.Kind, f.Payload); e == api.OK {
			rs, fs = append(rs, r), append(fs, f)
		}
	}
	return rs, fs
}

// plainOpen is Open by the chapter's words.
func plainOpen(d *vdisk.Disk, user, bound int) (*plain, api.Errno) {
	if d.Down() {
		return nil, api.ErrDown
	}
	if user < 1 || user > 999 || bound < 1 {
		return nil, api.ErrArg
	}
	if e := safe.Tidy(d, fmt.Sprintf("c%03d-", user)); e != api.OK {
		return nil, e
	}
	x := &plain{d: d, user: user, bound: bound}
	base := 0
	for _, name := range d.Names() {
		n := seqOf(user, name)
		if n < 0 {
			return nil, api.ErrBroken
		}
		if n == 0 {
			continue
		}
		x.l = append(x.l, n)
		b, _ := d.Read(name)
		rs, _ := plainRecords(b)
		for _, r := range rs {
			if r.Kind == api.RecHead && r.Base > base {
				base = r.Base
			}
		}
	}
	for len(x.l) > 0 && x.l[0] < base {
		if e := safe.Drop(d, x.name(x.l[0])); e != api.OK {
			return nil, e
		}
		x.l = x.l[1:]
	}
	x.find()
	return x, api.OK
}

func (x *plain) name(n int) string {
	return fmt.Sprintf("c%03d-%08d", x.user, n)
}

// find tells what stands in the containers; the next number stays at least what it was.
func (x *plain) find() {
	x.next, x.broken, x.places = max(x.next, 1), 0, nil
	for _, n := range x.l {
		b, _ := x.d.Read(x.name(n))
		x.broken += len(b)
		rs, fs := plainRecords(b)
		for i, r := range rs {
			x.broken -= fs[i].Len
			switch r.Kind {
			case api.RecHead, api.RecSeal:
				x.next = max(x.next, r.Next)
			case api.RecMsg, api.RecGone, api.RecFlag:
				x.next = max(x.next, r.Uid+1)
				x.places = append(x.places, api.Place{Seq: n, At: fs[i].At, Rec: r})
			}
		}
	}
}

// last is the last container: its number, its bytes, whether it is clean, and the kind of its last record.
func (x *plain) last() (n int, b []byte, clean bool, kind int) {
	if len(x.l) == 0 {
		return 0, nil, false, 0
	}
	n = x.l[len(x.l)-1]
	b, _ = x.d.Read(x.name(n))
	rs, fs := plainRecords(b)
	if len(rs) == 0 {
		return n, b, false, 0
	}
	f := fs[len(fs)-1]
	return n, b, f.At+f.Len == len(b), rs[len(rs)-1].Kind
}

// replaced is whether the container behind the last one tells a base above that.
func (x *plain) replaced(n int) bool {
	b, _ := x.d.Read(x.name(n + 1))
	rs, _ := plainRecords(b)
	return slices.ContainsFunc(rs, func(r api.Rec) bool { return r.Kind == api.RecHead && r.Base > n })
}

func plainRefused(r api.Rec) bool {
	return r.Kind < api.RecMsg || r.Kind > api.RecFlag || record.Check(r) != api.OK
}

// put is Put by the chapter's words.
func (x *plain) put(r api.Rec) (api.Place, api.Errno) {
	if plainRefused(r) {
		return api.Place{}, api.ErrArg
	}
	n, b, clean, kind := x.last()
	if !clean || len(b) >= x.bound || x.replaced(n) {
		if clean && len(b) >= x.bound && kind != api.RecSeal {
			if e := safe.Append(x.d, x.name(n), []byte(frames(seal(x.next)))); e != api.OK {
				return api.Place{}, e
			}
		}
		n++
		b = []byte(frames(head(x.user, n, x.next, 0)))
		if e := safe.Make(x.d, x.name(n), b); e != api.OK {
			return api.Place{}, e
		}
		x.l = append(x.l, n)
	}
	if e := safe.Append(x.d, x.name(n), []byte(frames(r))); e != api.OK {
		return api.Place{}, e
	}
	p := api.Place{Seq: n, At: len(b), Rec: r}
	x.places, x.next = append(x.places, p), max(x.next, r.Uid+1)
	return p, api.OK
}

// get is Get by the chapter's words.
func (x *plain) get(p api.Place) (api.Rec, api.Errno) {
	if _, e := x.d.Read(x.name(p.Seq)); e != api.OK {
		return api.Rec{}, e
	}
	for _, q := range x.places {
		if q.Seq != p.Seq || q.At != p.At {
			continue
		}
		b, _ := x.d.Read(x.name(p.Seq))
		rs, fs := plainRecords(b)
		for i, f := range fs {
			if f.At == p.At {
				return rs[i], api.OK
			}
		}
		return api.Rec{}, api.ErrBroken
	}
	return api.Rec{}, api.ErrNone
}

// compact is Compact by the chapter's words.
func (x *plain) compact(l []api.Rec) api.Errno {
	for _, r := range l {
		if plainRefused(r) {
			return api.ErrArg
		}
	}
	n, _, _, _ := x.last()
	n++
	s := frames(append([]api.Rec{head(x.user, n, x.next, n)}, l...)...)
	if e := safe.Swap(x.d, x.name(n), []byte(s)); e != api.OK {
		return e
	}
	elder := x.l
	x.l = []int{n}
	x.find()
	for _, n := range elder {
		if safe.Drop(x.d, x.name(n)) != api.OK {
			break
		}
	}
	return api.OK
}

// tells is all that it tells, as that of a box.
func (x *plain) tells() string {
	n := 0
	if len(x.l) > 0 {
		n = x.l[len(x.l)-1]
	}
	return fmt.Sprint(x.l, n, x.next, x.broken, x.places)
}

// pair is a box and one by the chapter's words, each on a disk of its own; the disks are alike.
type pair struct {
	d, p *vdisk.Disk
	b    *Box
	x    *plain
}

// both does the same with both disks.
func (w *pair) both(do func(d *vdisk.Disk)) {
	do(w.d)
	do(w.p)
}

// drawnRec is a record, mostly one that can be put.
func drawnRec(r *rand.Rand) api.Rec {
	uid := 1 + r.Intn(90)
	switch r.Intn(20) {
	case 0:
		return gone(r.Intn(2) - 1)
	case 1:
		return []api.Rec{head(1, 1, 1, 1), seal(1), body(1), {}, flag(1, 32)}[r.Intn(5)]
	case 2, 3, 4, 5:
		return gone(uid)
	case 6, 7, 8, 9:
		return flag(uid, r.Intn(32))
	}
	return msg(uid)
}

// drawnBytes is what may stand in a container.
func drawnBytes(r *rand.Rand) string {
	s := ""
	for range r.Intn(4) {
		switch r.Intn(7) {
		case 0:
			s += frames(head(1+r.Intn(2), 1+r.Intn(9), 1+r.Intn(90), r.Intn(6)))
		case 1:
			s += frames(seal(1 + r.Intn(90)))
		case 2:
			s += "P\x02\x00"[:r.Intn(4)]
		case 3:
			s += frames(body(1))
		case 4:
			s += noRecord()
		default:
			s += frames(msg(1 + r.Intn(90)))
		}
	}
	return s
}

// drawnPair is a pair without boxes yet, on disks with some files.
func drawnPair(r *rand.Rand) *pair {
	room := 150 + r.Intn(600)
	var told []api.File
	left := room
	for _, n := range []string{c1, c2, c3, "c001-00000005", c1 + ".n", c3 + ".n", "c002-00000009"} {
		s := drawnBytes(r)
		if r.Intn(3) == 0 && len(s) <= left {
			left -= len(s)
			told = append(told, api.File{Name: n, Data: []byte(s)})
		}
	}
	return &pair{d: vdisk.New(told, room), p: vdisk.New(told, room)}
}

// disturb arms what may fail, lets the power go or come, or changes a file beside the box.
func (w *pair) disturb(r *rand.Rand) {
	n, k, s := r.Intn(12)-1, r.Intn(24), drawnBytes(r)
	name := []string{c1, c2, c3, c4, "c001-00000006", "c001-00000007", "c001-x"}[r.Intn(7)]
	keep := []int{r.Intn(60) - 1, r.Intn(60) - 1}[:r.Intn(3)]
	w.both(func(d *vdisk.Disk) {
		switch k {
		case 0, 1, 2:
			d.Crash(n)
		case 3, 4, 5, 6:
			d.Fail(n, api.ErrBusy)
		case 7, 8, 9, 10, 11, 12, 13, 14:
			d.Boot(n, keep)
		case 15:
			d.Append(name, []byte(s))
		case 16:
			d.Pwrite(name, max(0, n)*9, []byte("P"))
		case 17:
			d.Unlink(name)
		case 18:
			d.Create(name)
		}
	})
}

// open opens both boxes anew.
func (w *pair) open(r *rand.Rand) (got, want string) {
	user, bound := 1, []int{1, 60, 100, 150, 1000}[r.Intn(5)]
	if r.Intn(20) == 0 {
		user, bound = r.Intn(3)*500, r.Intn(2)
	}
	b, e := Open(w.d, user, bound)
	x, f := plainOpen(w.p, user, bound)
	if e == api.OK && f == api.OK {
		w.b, w.x = b, x
	}
	return fmt.Sprint(e, b != nil), fmt.Sprint(f, x != nil)
}

// call asks both the same.
func (w *pair) call(r *rand.Rand) (what, got, want string) {
	if w.b == nil || r.Intn(12) == 0 {
		got, want = w.open(r)
		return "Open", got, want
	}
	switch r.Intn(8) {
	case 0, 1:
		p := api.Place{Seq: r.Intn(5), At: r.Intn(40)}
		if l := w.b.Places(); len(l) > 0 && r.Intn(4) > 0 {
			p = l[r.Intn(len(l))]
		}
		a, e := w.b.Get(p)
		b, f := w.x.get(p)
		return "Get", fmt.Sprint(a, e), fmt.Sprint(b, f)
	case 2:
		var l []api.Rec
		for range r.Intn(4) {
			l = append(l, drawnRec(r))
		}
		return "Compact", fmt.Sprint(w.b.Compact(l)), fmt.Sprint(w.x.compact(l))
	}
	c := drawnRec(r)
	a, e := w.b.Put(c)
	b, f := w.x.put(c)
	return "Put", fmt.Sprint(a, e), fmt.Sprint(b, f)
}

// told is all that can be seen of a disk.
func told(d *vdisk.Disk) string {
	turns, writes := d.Waits()
	return fmt.Sprintf("%v %d %d %d %q", d.Down(), d.Calls(), turns, writes, files(d))
}

// P18.1 to P18.4: drawn calls on drawn disks, of which some calls fail, whose power goes and comes, and whose files are changed beside the box, answer and leave what the chapter's words do.
func TestAgainstWords(t *testing.T) {
	for seed := range 2000 {
		r := rand.New(rand.NewSource(int64(seed)))
		w := drawnPair(r)
		for i := range 40 {
			if r.Intn(3) == 0 {
				w.disturb(r)
			}
			what, got, want := w.call(r)
			if got != want {
				t.Fatalf("seed %d, call %d: %s: %s, not %s", seed, i, what, got, want)
			}
			if s, p := told(w.d), told(w.p); s != p {
				t.Fatalf("seed %d, call %d: %s: %s, not %s", seed, i, what, s, p)
			}
			if w.b != nil && tells(w.b) != w.x.tells() {
				t.Fatalf("seed %d, call %d: %s: %s, not %s", seed, i, what, tells(w.b), w.x.tells())
			}
		}
	}
}

// lasting is what must be there of a box behind any crash: its records, and that the next number isn't below what was told.
type lasting struct {
	d    *vdisk.Disk
	b    *Box
	recs []api.Rec
	next int
}

// opens opens the box anew, whose records must be those that were there, or, if the power cut a call off, what that may have left.
func (x *lasting) opens(t *testing.T, r *rand.Rand, may ...[]api.Rec) {
	t.Helper()
	x.b = opens(t, x.d, 1, []int{1, 60, 100, 1000}[r.Intn(4)])
	got := records(x.b)
	for _, l := range append(may, x.recs) {
		if fmt.Sprint(l) == got {
			x.recs = l
			x.tells(t)
			return
		}
	}
	t.Fatalf("%s, not %v", got, x.recs)
}

// tells looks whether the box has what must be there.
func (x *lasting) tells(t *testing.T) {
	t.Helper()
	if got := records(x.b); got != fmt.Sprint(x.recs) {
		t.Fatalf("%s, not %v", got, x.recs)
	}
	if x.b.Next() < x.next {
		t.Fatalf("the next number fell from %d to %d", x.next, x.b.Next())
	}
	x.next = x.b.Next()
	for _, p := range x.b.Places() {
		if got, e := x.b.Get(p); x.d.Down() && e != api.ErrDown || !x.d.Down() && (e != api.OK || !record.Same(got, p.Rec)) {
			t.Fatalf("%v: %v %d", p, got, e)
		}
	}
}

// change makes a drawn call that changes, and answers what the records are behind it.
func (x *lasting) change(r *rand.Rand) ([]api.Rec, api.Errno) {
	if r.Intn(6) > 0 {
		c := msg(1 + r.Intn(90))
		_, e := x.b.Put(c)
		return append(slices.Clone(x.recs), c), e
	}
	var l []api.Rec
	for _, c := range x.recs {
		if r.Intn(2) == 0 {
			l = append(l, c)
		}
	}
	return l, x.b.Compact(l)
}

// P18.5: drawn calls on a disk that is small, that fails, and whose power goes and comes: no record is lost for which Put answered OK, Compact has the elder ones or the new ones, and the next number never falls.
func TestLasting(t *testing.T) {
	for seed := range 1500 {
		r := rand.New(rand.NewSource(int64(seed)))
		x := &lasting{d: vdisk.New(nil, 200+r.Intn(600))}
		x.opens(t, r)
		for range 40 {
			if r.Intn(3) == 0 {
				x.d.Fail(r.Intn(10), api.ErrBusy)
			}
			if r.Intn(6) == 0 {
				x.d.Crash(r.Intn(12))
			}
			then, e := x.change(r)
			if e == api.OK {
				x.recs = then
			}
			x.tells(t)
			switch {
			case x.d.Down():
				x.d.Boot(r.Intn(9), []int{r.Intn(60) - 1})
				if e != api.ErrDown {
					// The power went behind what was answered, when something was cleaned up.
					then = x.recs
				}
				x.opens(t, r, then)
			case r.Intn(10) == 0:
				x.d.Fail(-1, api.OK)
				x.d.Crash(-1)
				x.opens(t, r)
			}
		}
	}
}
