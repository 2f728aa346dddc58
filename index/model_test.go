package index

import (
	"bytes"
	"fmt"
	"math/rand"
	"slices"
	"testing"

	"pigeonhole/api"
	"pigeonhole/dbox"
	"pigeonhole/mbox"
	"pigeonhole/record"
	"pigeonhole/safe"
	"pigeonhole/txlog"
	"pigeonhole/vdisk"
)

// plain is an index by the chapter's words.
type plain struct {
	box       *dbox.Box
	log       *txlog.Log
	m         *mbox.Mailbox
	txs       [][][]byte
	compacted bool
}

// plainOpen is Open by the chapter's words.
func plainOpen(d *vdisk.Disk, user, bound int) (*plain, api.Errno) {
	name := fmt.Sprintf("x%03d", user)
	box, e := dbox.Open(d, user, bound)
	if e != api.OK {
		return nil, e
	}
	if e := safe.Tidy(d, name); e != api.OK {
		return nil, e
	}
	log, l, e := txlog.Open(d, name)
	if e != api.OK {
		return nil, e
	}
	x := &plain{box: box, log: log, m: mbox.New()}
	for _, p := range box.Places() {
		x.m.Take(p.Rec)
	}
	x.m.Raise(box.Next())
	for _, t := range l {
		x.txs = append(x.txs, t.Items)
		for _, item := range t.Items {
			for i := 1; len(item)%5 == 1 && item[0] == 2 && i < len(item); i += 5 {
				uid := int(item[i])<<24 | int(item[i+1])<<16 | int(item[i+2])<<8 | int(item[i+3])
				x.m.Take(api.Rec{Kind: api.RecFlag, Uid: uid, Flags: int(item[i+4])})
			}
		}
	}
	if !x.inStep() && x.step() == api.ErrDown {
		return nil, api.ErrDown
	}
	return x, api.OK
}

// use is the item 01.
func (x *plain) use() []byte {
	u := x.m.Use()
	return []byte(used(u.Bytes, u.Count, x.m.Next()))
}

func (x *plain) inStep() bool {
	if x.compacted || !x.log.Whole() || len(x.txs) == 0 {
		return false
	}
	last := x.txs[len(x.txs)-1]
	return len(last) > 0 && bytes.Equal(last[0], x.use())
}

// step is Step by the chapter's words.
func (x *plain) step() api.Errno {
	if x.inStep() {
		return api.OK
	}
	items := [][]byte{x.use()}
	var pairs []int
	for _, e := range x.m.List(false) {
		pairs = append(pairs, e.Uid, e.Flags)
	}
	for l := range slices.Chunk(pairs, 1000) {
		items = append(items, []byte(flagged(l...)))
	}
	if e := x.log.Rotate(items); e != api.OK {
		return e
	}
	x.txs, x.compacted = [][][]byte{items}, false
	return api.OK
}

// put is what Deliver and Expunge have in common.
func (x *plain) put(r api.Rec) api.Errno {
	inStep := x.inStep()
	if _, e := x.box.Put(r); e != api.OK {
		return e
	}
	x.m.Take(r)
	if inStep {
		x.add([][]byte{x.use()})
	}
	return api.OK
}

func (x *plain) add(items [][]byte) api.Errno {
	e := x.log.Add(items)
	if e == api.OK {
		x.txs = append(x.txs, items)
	}
	return e
}

// deliver is Deliver by the chapter's words.
func (x *plain) deliver(a [5]int) (int, api.Errno) {
	r := x.m.Make(a[0], a[1], a[2], a[3], a[4])
	if record.Check(r) == api.OK && !x.m.Clone().Take(r) {
		return 0, api.ErrQuota
	}
	if e := x.put(r); e != api.OK {
		return 0, e
	}
	return r.Uid, api.OK
}

// expunge is Expunge by the chapter's words.
func (x *plain) expunge(uid int) api.Errno {
	if !x.m.Clone().Take(gone(uid)) {
		return api.ErrNone
	}
	return x.put(gone(uid))
}

// flag is Flag by the chapter's words.
func (x *plain) flag(uid, flags int) api.Errno {
	if !x.m.Clone().Take(flag(uid, 0)) {
		return api.ErrNone
	}
	if flags < 0 || flags > 31 {
		return api.ErrArg
	}
	if e := x.step(); e != api.OK {
		return e
	}
	if e := x.add([][]byte{x.use(), []byte(flagged(uid, flags))}); e != api.OK {
		return e
	}
	x.m.Take(flag(uid, flags))
	return api.OK
}

// persist is Persist by the chapter's words.
func (x *plain) persist() api.Errno {
	for _, e := range x.m.List(false) {
		told := 0
		m := mbox.New()
		for _, p := range x.box.Places() {
			m.Take(p.Rec)
		}
		if f, ok := m.Get(e.Uid); ok {
			told = f.Flags
		}
		if told != e.Flags {
			if _, e := x.box.Put(flag(e.Uid, e.Flags)); e != api.OK {
				return e
			}
		}
	}
	return api.OK
}

// compact is Compact by the chapter's words.
func (x *plain) compact() api.Errno {
	l := x.m.Records(false)
	if e := x.box.Compact(l); e != api.OK {
		return e
	}
	next := x.m.Next()
	x.m = mbox.New()
	for _, r := range l {
		x.m.Take(r)
	}
	x.m.Raise(next)
	x.compacted = true
	x.step()
	return api.OK
}

// read is Read by the chapter's words.
func (x *plain) read(uid int) (api.Rec, api.Errno) {
	if _, ok := x.m.Get(uid); !ok {
		return api.Rec{}, api.ErrNone
	}
	m := mbox.New()
	for _, p := range x.box.Places() {
		if m.Take(p.Rec) && p.Rec.Kind == api.RecMsg && p.Rec.Uid == uid {
			return x.box.Get(p)
		}
	}
	panic("an entry without its record")
}

// tells is all that it tells, as tellsAll of an index.
func (x *plain) tells() string {
	var l []string
	for _, e := range x.m.List(true) {
		r, err := x.read(e.Uid)
		f, ok := x.m.From(e.Origin)
		l = append(l, fmt.Sprint(e, f, ok, r, err))
	}
	return fmt.Sprint(l, x.m.List(false), x.m.Use(), x.m.Next(), x.m.Bodies(), !x.inStep(), x.box.Broken())
}

// tellsAll is all that an index tells.
func tellsAll(x *Index) string {
	var l []string
	for _, e := range x.List(true) {
		r, err := x.Read(e.Uid)
		f, ok := x.From(e.Origin)
		l = append(l, fmt.Sprint(e, f, ok, r, err))
	}
	return fmt.Sprint(l, x.List(false), x.Use(), x.Next(), x.Bodies(), x.Behind(), x.Broken())
}

// pair is an index and one by the chapter's words, each on a disk of its own; the disks are alike.
type pair struct {
	d, p *vdisk.Disk
	x    *Index
	y    *plain
}

// both does the same with both disks.
func (w *pair) both(do func(d *vdisk.Disk)) {
	do(w.d)
	do(w.p)
}

// drawnBox is what may stand in a container.
func drawnBox(r *rand.Rand) string {
	s := ""
	for range r.Intn(8) {
		uid := 1 + r.Intn(6)
		switch r.Intn(12) {
		case 0:
			s += frames(head(1+r.Intn(2), 1+r.Intn(3), 1+r.Intn(9), r.Intn(3)))
		case 1:
			s += "P\x02\x00"[:r.Intn(4)]
		case 2, 3:
			s += frames(gone(uid))
		case 4, 5:
			s += frames(flag(uid, r.Intn(32)))
		default:
			s += frames(msg(uid, uid))
		}
	}
	return s
}

// drawnLog is what may stand in a log.
func drawnLog(r *rand.Rand) string {
	var l [][]string
	for range r.Intn(4) {
		var items []string
		for range r.Intn(4) {
			switch r.Intn(6) {
			case 0, 1:
				items = append(items, used(r.Intn(8), r.Intn(3), 1+r.Intn(6)))
			case 2:
				items = append(items, []string{"", "\x02", "\x01", "\x03abcd", flagged(1, 2) + "x"}[r.Intn(5)])
			default:
				items = append(items, flagged(1+r.Intn(6), r.Intn(34), 1+r.Intn(6), r.Intn(32)))
			}
		}
		l = append(l, items)
	}
	s := txs(l...)
	if r.Intn(4) == 0 {
		s += "x"
	}
	return s[:len(s)-r.Intn(len(s)+1)*r.Intn(2)*r.Intn(2)]
}

// drawnPair is a pair of disks with some files; the indexes come with the first call.
func drawnPair(r *rand.Rand) *pair {
	room := 400 + r.Intn(1200)
	var told []api.File
	left := room
	for _, n := range []string{c1, c2, c3, x1, x1 + ".n", c1 + ".n", "x002"} {
		s := drawnBox(r)
		if n == x1 {
			s = drawnLog(r)
		}
		if r.Intn(2) == 0 && len(s) <= left {
			left -= len(s)
			told = append(told, api.File{Name: n, Data: []byte(s)})
		}
	}
	return &pair{d: vdisk.New(told, room), p: vdisk.New(told, room)}
}

// disturb arms what may fail, lets the power go or come, or changes a file beside the index.
func (w *pair) disturb(r *rand.Rand) {
	n, k := r.Intn(16)-1, r.Intn(24)
	keep := []int{r.Intn(90) - 1}[:r.Intn(2)]
	name, s := []string{c1, c2, x1}[r.Intn(3)], drawnBox(r)
	if name == x1 {
		s = drawnLog(r)
	}
	w.both(func(d *vdisk.Disk) {
		switch k {
		case 0, 1, 2:
			d.Crash(n)
		case 3, 4, 5, 6, 7, 8:
			d.Fail(n, api.ErrBusy)
		case 9, 10, 11, 12, 13, 14:
			// One that was there goes on otherwise than its words do.
			if d.Boot(n, keep) == api.OK {
				w.x, w.y = nil, nil
			}
		case 15:
			d.Append(name, []byte(s))
		case 16:
			d.Pwrite(name, max(0, n)*9, []byte("P"))
		}
	})
}

// open opens both anew.
func (w *pair) open(r *rand.Rand) (got, want string) {
	user, bound := 1, []int{1, 100, 200, 1000}[r.Intn(4)]
	if r.Intn(20) == 0 {
		user, bound = r.Intn(3)*500, r.Intn(2)
	}
	x, e := Open(w.d, user, bound)
	y, f := plainOpen(w.p, user, bound)
	if e == api.OK && f == api.OK {
		w.x, w.y = x, y
	}
	return fmt.Sprint(e, x != nil), fmt.Sprint(f, y != nil)
}

// call asks both the same.
func (w *pair) call(r *rand.Rand) (what, got, want string) {
	if w.x == nil || r.Intn(15) == 0 {
		got, want = w.open(r)
		return "Open", got, want
	}
	uid := r.Intn(8)
	switch r.Intn(12) {
	case 0, 1:
		return "Expunge", fmt.Sprint(w.x.Expunge(uid)), fmt.Sprint(w.y.expunge(uid))
	case 2, 3, 4:
		flags := r.Intn(36) - 2
		return "Flag", fmt.Sprint(w.x.Flag(uid, flags)), fmt.Sprint(w.y.flag(uid, flags))
	case 5:
		return "Persist", fmt.Sprint(w.x.Persist()), fmt.Sprint(w.y.persist())
	case 6:
		return "Compact", fmt.Sprint(w.x.Compact()), fmt.Sprint(w.y.compact())
	case 7:
		return "Step", fmt.Sprint(w.x.Step()), fmt.Sprint(w.y.step())
	}
	a := [5]int{r.Intn(40) - 1, r.Intn(34) - 1, r.Intn(30), r.Intn(50) - 1, r.Intn(50) - 1}
	n, e := w.x.Deliver(a[0], a[1], a[2], a[3], a[4])
	m, f := w.y.deliver(a)
	return "Deliver", fmt.Sprint(n, e), fmt.Sprint(m, f)
}

// told is all that can be seen of a disk.
func told(d *vdisk.Disk) string {
	turns, writes := d.Waits()
	return fmt.Sprintf("%v %d %d %d %q", d.Down(), d.Calls(), turns, writes, files(d))
}

// P21.1 to P21.5: drawn calls on drawn disks, of which some calls fail, whose power goes and comes, and whose files are changed beside the index, answer and leave what the chapter's words do.
func TestAgainstWords(t *testing.T) {
	for seed := range 900 {
		r := rand.New(rand.NewSource(int64(seed)))
		w := drawnPair(r)
		for i := range 40 {
			if r.Intn(3) == 0 {
				w.disturb(r)
			}
			what, got, want := w.call(r)
			if got != want {
				t.Fatalf("seed %d, call %d: %s: %s, not %s", seed, i, what, got, want)
			}
			if s, p := told(w.d), told(w.p); s != p {
				t.Fatalf("seed %d, call %d: %s: %s, not %s", seed, i, what, s, p)
			}
			if w.x != nil && tellsAll(w.x) != w.y.tells() {
				t.Fatalf("seed %d, call %d: %s: %s, not %s", seed, i, what, tellsAll(w.x), w.y.tells())
			}
		}
	}
}

// drawnChange is a change that is right, of an index with some messages.
func drawnChange(r *rand.Rand) change {
	uid, flags, size := 1+r.Intn(12), r.Intn(32), r.Intn(100)
	switch r.Intn(12) {
	case 0, 1, 2:
		return change{fmt.Sprint("Expunge ", uid), func(x *Index) api.Errno { return x.Expunge(uid) }}
	case 3, 4, 5:
		return change{fmt.Sprint("Flag ", uid, flags), func(x *Index) api.Errno { return x.Flag(uid, flags) }}
	case 6:
		return change{"Persist", (*Index).Persist}
	case 7:
		return change{"Compact", (*Index).Compact}
	case 8:
		return change{"Step", (*Index).Step}
	}
	return change{"Deliver", func(x *Index) api.Errno {
		_, e := x.Deliver(5, flags, 1+uid, size, uid)
		return e
	}}
}

// P21.6: drawn changes on a disk that fails, and whose power goes and comes, with an index that is opened again or goes on: the disk always has what the index tells, and behind a crash what it had, or the change that was cut off too.
func TestLasting(t *testing.T) {
	for seed := range 400 {
		r := rand.New(rand.NewSource(int64(seed)))
		d := vdisk.New(nil, 900+r.Intn(1500))
		x := opens(t, d)
		for i := range 30 {
			c := drawnChange(r)
			what := fmt.Sprint("seed ", seed, ", call ", i, ", ", c.what)
			before := peek(t, d)
			whole := opens(t, vdisk.New(filesOf(d), 4000))
			c.do(whole)
			if r.Intn(3) == 0 {
				d.Fail(r.Intn(14), api.ErrBusy)
			}
			if r.Intn(4) == 0 {
				d.Crash(r.Intn(14))
			}
			e := c.do(x)
			want := []string{before}
			if e == api.OK {
				want = []string{tells(whole)}
			} else if e == api.ErrDown {
				want = append(want, tells(whole))
			}
			if d.Down() {
				d.Boot(r.Intn(5), []int{r.Intn(110) - 1})
			} else if got := tells(x); got != want[0] {
				t.Fatalf("%s: %d %s, not %s", what, e, got, want[0])
			}
			if got := peek(t, d); !slices.Contains(want, got) {
				t.Fatalf("%s: %d %s, none of %q", what, e, got, want)
			}
			if r.Intn(4) == 0 {
				d.Fail(-1, api.OK)
				d.Crash(-1)
				x = opens(t, d)
			}
		}
	}
}
