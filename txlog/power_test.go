package txlog

import (
	"fmt"
	"math/rand"
	"slices"
	"testing"

	"pigeonhole/api"
	"pigeonhole/vdisk"
)

// numbered is transactions of these items, numbered from 1 on.
func numbered(lists ...[][]byte) []api.Tx {
	var l []api.Tx
	for i, x := range lists {
		l = append(l, api.Tx{N: i + 1, Items: x})
	}
	return l
}

// behindCrash lets the power go with each call of what is done with a log of that file, with each number of kept turns and bytes, and tells each time what Open told behind it. The log that was there goes on: what it adds behind it must be told too.
func behindCrash(t *testing.T, made func() *vdisk.Disk, do func(l *Log) api.Errno, most int) []string {
	t.Helper()
	var told []string
	for crash := 0; ; crash++ {
		for i := range 4 * (most + 1) {
			d := made()
			l, _, _ := Open(d, "x")
			n, whole := l.Len(), l.Whole()
			d.Crash(crash)
			e := do(l)
			if !d.Down() {
				if e != api.OK {
					t.Fatalf("crash %d: %d", crash, e)
				}
				slices.Sort(told)
				return slices.Compact(told)
			}
			is(t, fmt.Sprint("crash ", crash), l, e, api.ErrDown, n, whole)
			d.Boot(i%4, []int{i / 4})
			_, txs, e := Open(d, "x")
			if e != api.OK {
				t.Fatalf("crash %d: Open: %d", crash, e)
			}
			told = append(told, tells(txs))
			goesOn(t, d, l, txs)
		}
	}
}

// goesOn looks whether a log, of whose file Open told these transactions, loses none that it adds, nor one of those.
func goesOn(t *testing.T, d *vdisk.Disk, l *Log, txs []api.Tx) {
	t.Helper()
	more := items("more")
	e := l.Add(more)
	if e != api.OK && e != api.ErrBroken {
		t.Errorf("goes on: %d", e)
	}
	if e == api.OK {
		txs = append(slices.Clone(txs), api.Tx{N: len(txs) + 1, Items: more})
	}
	if _, again, _ := Open(d, "x"); tells(again) != tells(txs) {
		t.Errorf("goes on: %s%d, not %s", tells(again), e, tells(txs))
	}
	if e := l.Rotate(more); e != api.OK {
		t.Errorf("rotates: %d", e)
	}
	opens(t, d, more)
}

// same fails, where these aren't just the states that came about.
func same(t *testing.T, got []string, want ...[]api.Tx) {
	t.Helper()
	var all []string
	for _, l := range want {
		all = append(all, tells(l))
	}
	slices.Sort(all)
	if !slices.Equal(got, all) {
		t.Errorf("%q, not %q", got, all)
	}
}

// P17.5: whenever the power goes within Add, the transactions are those that were there, or the new one too, as a whole.
func TestAddPower(t *testing.T) {
	a, b := items("a"), items("b", "P", "")
	made := func() *vdisk.Disk { return disk(1000, fileOf(a, nil)) }
	got := behindCrash(t, made, func(l *Log) api.Errno { return l.Add(b) }, len(plainTx(3, b)))
	same(t, got, numbered(a, nil), numbered(a, nil, b))
}

// P17.5: whenever the power goes within Rotate, the transactions are those that were there, or the new one alone, though both files have as many bytes.
func TestRotatePower(t *testing.T) {
	a := items("a")
	for _, was := range [][][][]byte{{}, {nil}, {items("b")}, {a, nil, nil}} {
		// A file that was broken too is there with what it had, or anew.
		for _, behind := range []string{"", "P"} {
			made := func() *vdisk.Disk { return disk(1000, fileOf(was...)+behind) }
			got := behindCrash(t, made, func(l *Log) api.Errno { return l.Rotate(a) }, len(plainTx(1, a)))
			same(t, got, numbered(was...), numbered(a))
		}
	}
	long := items(string(make([]byte, len(fileOf(nil, nil))-len(fileOf(items(""))))))
	if len(fileOf(long)) != len(fileOf(nil, nil)) {
		t.Fatal("the files have other lengths")
	}
	made := func() *vdisk.Disk { return disk(1000, fileOf(nil, nil)) }
	got := behindCrash(t, made, func(l *Log) api.Errno { return l.Rotate(long) }, len(fileOf(long)))
	same(t, got, numbered(nil, nil), numbered(long))
}

// P17.5: whenever the power goes within Open, a log can be opened behind it, without transactions.
func TestOpenPower(t *testing.T) {
	for crash := range 4 {
		for turns := range 2 {
			d := vdisk.New(nil, 1000)
			d.Crash(crash)
			if l, _, e := Open(d, "x"); l != nil || e != api.ErrDown {
				t.Errorf("crash %d: %d", crash, e)
			}
			d.Boot(turns, nil)
			l := opens(t, d)
			is(t, "Add", l, l.Add(nil), api.OK, 1, true)
		}
	}
}

// model is a log by the chapter's words: the transactions that it knows, beside the disk on which both lie.
type model struct {
	d   *vdisk.Disk
	l   *Log
	txs [][][]byte
}

// open opens the log, whose transactions must be those that the model knows, or, if the power cut a call off, what that may have left.
func (m *model) open(t *testing.T, may ...[][][]byte) {
	t.Helper()
	l, txs, e := Open(m.d, "x")
	if l == nil || e != api.OK {
		t.Fatalf("Open: %d", e)
	}
	m.l = l
	for _, lists := range append(may, m.txs) {
		if tells(numbered(lists...)) == tells(txs) {
			m.txs = lists
			return
		}
	}
	t.Fatalf("Open: %s, not %s", tells(txs), tells(numbered(m.txs...)))
}

// boots lets the power come again, with drawn turns and bytes.
func (m *model) boots(t *testing.T, rnd *rand.Rand, may ...[][][]byte) {
	t.Helper()
	keep := make([]int, rnd.Intn(3))
	for i := range keep {
		keep[i] = rnd.Intn(80)
	}
	m.d.Boot(rnd.Intn(4), keep)
	old := m.l
	m.open(t, may...)
	// One that was there before the crash goes on now and then.
	if rnd.Intn(2) == 0 && old.Whole() == m.l.Whole() && old.Len() == m.l.Len() {
		m.l = old
	}
}

// whole is whether the file has the bytes of the transactions that are known, and no more.
func (m *model) whole() bool {
	b, _ := m.d.Read("x")
	return string(b) == fileOf(m.txs...)
}

// step makes a drawn call, and looks at what it answers.
func (m *model) step(t *testing.T, rnd *rand.Rand) {
	t.Helper()
	var x [][]byte
	for range rnd.Intn(4) {
		x = append(x, []byte("PQab")[rnd.Intn(5):])
	}
	whole := m.whole()
	var e api.Errno
	var then [][][]byte
	switch rnd.Intn(8) {
	case 0, 1, 2, 3:
		then = append(slices.Clone(m.txs), x)
		if e = m.l.Add(x); (e == api.ErrBroken) != !whole {
			t.Fatalf("Add: %d, whole %v", e, whole)
		}
	case 4:
		then = [][][]byte{x}
		e = m.l.Rotate(x)
	case 5:
		m.open(t)
		return
	case 6:
		m.d.Append("x", []byte("P\x20")[:1+rnd.Intn(2)])
		m.d.Sync("x")
	default:
		m.d.Fail(rnd.Intn(6), api.ErrBusy)
		m.d.Crash(rnd.Intn(12))
		return
	}
	switch {
	case m.d.Down() && e == api.ErrDown:
		m.boots(t, rnd, then)
		return
	case m.d.Down():
		// The power went behind what was answered, when something was cleaned up, or without the log.
		if then != nil && e == api.OK {
			t.Fatal("OK, without power")
		}
		m.boots(t, rnd)
		return
	case e == api.OK && then != nil:
		m.txs = then
	}
	is(t, "step", m.l, api.OK, api.OK, len(m.txs), m.whole())
}

// P17.2 to P17.5: drawn calls on a disk that is small, that fails, and whose power goes and comes: no transaction is lost for which Add answered OK, none is there in part, and the log is told as it is.
func TestDrawn(t *testing.T) {
	for seed := range 4000 {
		rnd := rand.New(rand.NewSource(int64(seed)))
		m := &model{d: vdisk.New(nil, 100+rnd.Intn(400))}
		m.open(t)
		for range 40 {
			m.step(t, rnd)
		}
		m.d.Fail(-1, api.OK)
		m.d.Crash(-1)
		m.open(t)
	}
}
