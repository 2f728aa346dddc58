package txlog

import (
	"bytes"
	"fmt"
	"math/rand"
	"slices"
	"testing"

	"pigeonhole/api"
	"pigeonhole/frame"
)

// plainReplay is Replay by the chapter's words, of all frames that stand in a row.
func plainReplay(b []byte) (l []api.Tx, used int) {
	row, _, _ := frame.Row(b)
	for len(row) > 0 {
		n := len(l) + 1
		head := row[0]
		if head.Kind != 32 || len(head.Payload) != 10 || string(head.Payload[:8]) != eight(n) {
			break
		}
		count := int(head.Payload[8])*256 + int(head.Payload[9])
		if count > 1000 || len(row) < count+2 {
			break
		}
		t := api.Tx{N: n}
		for _, f := range row[1 : count+1] {
			if f.Kind == 33 && len(f.Payload) <= 4096 {
				t.Items = append(t.Items, f.Payload)
			}
		}
		last := row[count+1]
		if len(t.Items) != count || last.Kind != 34 || string(last.Payload) != eight(n) {
			break
		}
		l, used, row = append(l, t), last.At+last.Len, row[count+2:]
	}
	return l, used
}

// tells is transactions as a text.
func tells(l []api.Tx) string {
	s := ""
	for _, t := range l {
		s += fmt.Sprintf("%d %q; ", t.N, t.Items)
	}
	return s
}

// replays fails, where Replay doesn't tell these lists of items, numbered from 1 on, and so many bytes.
func replays(t *testing.T, b []byte, used int, lists ...[][]byte) {
	t.Helper()
	var want []api.Tx
	for i, l := range lists {
		want = append(want, api.Tx{N: i + 1, Items: l})
	}
	if l, n := Replay(b); tells(l) != tells(want) || n != used {
		t.Errorf("Replay(%x): %s%d, not %s%d", b, tells(l), n, tells(want), used)
	}
}

// sample is the items of a file's transactions.
func sample() [][][]byte {
	return [][][]byte{items("a", "", "bPQc"), nil, items("\x20"), items("", "")}
}

// sampleFile is the bytes of that file, and where its transactions end, from 0 on.
func sampleFile() (b []byte, ends []int) {
	ends = []int{0}
	for i, l := range sample() {
		b = append(b, plainTx(i+1, l)...)
		ends = append(ends, len(b))
	}
	return b, ends
}

// P17.1: the chapter's example: a transaction without items, and all but its last byte.
func TestReplayExample(t *testing.T) {
	b, _ := Bytes(1, nil)
	replays(t, b, len(b), nil)
	replays(t, b[:len(b)-1], 0)
}

// P17.1, P17.5: cut off anywhere, the transactions that are there as a whole; whatever stands behind them.
func TestReplayCut(t *testing.T) {
	b, ends := sampleFile()
	for n := range len(b) + 1 {
		whole := 0
		for whole+1 < len(ends) && ends[whole+1] <= n {
			whole++
		}
		replays(t, b[:n], ends[whole], sample()[:whole]...)
		for _, behind := range []string{"x", "P", "Px", "\x00", string(b)} {
			// Not where the byte behind the cut is the one that stood there.
			if n == len(b) || b[n] != behind[0] {
				replays(t, append(slices.Clone(b[:n]), behind...), ends[whole], sample()[:whole]...)
			}
		}
	}
}

// P17.1: with any byte another one, the transactions ahead of it.
func TestReplayTurned(t *testing.T) {
	b, ends := sampleFile()
	for i := range b {
		for _, x := range []byte{1, 0x10, 0x80, 0xff} {
			turned := slices.Clone(b)
			turned[i] ^= x
			whole := 0
			for ends[whole+1] <= i {
				whole++
			}
			replays(t, turned, ends[whole], sample()[:whole]...)
		}
	}
}

// joined is frames one behind the other, each told as its kind and its payload.
func joined(frames ...string) []byte {
	var b []byte
	for _, f := range frames {
		b = append(b, wrapped(int(f[0]), f[1:])...)
	}
	return b
}

// P17.1: what is no transaction with the number that is next, though its frames are whole.
func TestReplayWrong(t *testing.T) {
	head, tail := func(n, count int) string { return "\x20" + opening(n, count) }, func(n int) string { return "\x22" + eight(n) }
	long := "\x21" + string(make([]byte, 4097))
	many := append(append([]string{head(2, 1001)}, slices.Repeat([]string{"\x21"}, 1001)...), tail(2))
	ahead := plainTx(1, items("a"))
	for i, frames := range [][]string{
		{head(1, 0), tail(1)}, {head(3, 0), tail(3)}, {head(0, 0), tail(0)}, {head(-2, 0), tail(-2)}, {head(1<<32+2, 0), tail(1<<32 + 2)},
		{head(2, 0), tail(1)}, {head(2, 0), tail(3)}, {head(1, 0), tail(2)},
		{head(2, 0)}, {tail(2)}, {"\x21a"}, {"\x21a", head(2, 0), tail(2)}, {tail(2), head(2, 0), tail(2)},
		{head(2, 0), "\x21a", tail(2)}, {head(2, 1), tail(2)}, {head(2, 2), "\x21a", tail(2)}, {head(2, 1), "\x21a", "\x21b", tail(2)},
		{head(2, 256), "\x21a", tail(2)}, {head(2, 257), "\x21a", tail(2)},
		{head(2, 1), "\x20a", tail(2)}, {head(2, 1), "\x22a", tail(2)}, {head(2, 1), "\x01a", tail(2)}, {head(2, 1), "\xffa", tail(2)},
		{head(2, 1), long, tail(2)}, many,
		{head(2, 0) + "\x00", tail(2)}, {head(2, 0)[:10], tail(2)}, {"\x20", tail(2)}, {"\x20" + head(2, 0), tail(2)},
		{head(2, 0), tail(2) + "\x00"}, {head(2, 0), tail(2)[:8]}, {head(2, 0), "\x22"}, {head(2, 0), "\x22\x02"},
		{"\x10" + opening(2, 0), tail(2)}, {head(2, 0), "\x23" + eight(2)}, {"\x22" + opening(2, 0), "\x20" + eight(2)},
	} {
		b := joined(frames...)
		if l, used := Replay(append(slices.Clone(ahead), b...)); used != len(ahead) || tells(l) != "1 [\"a\"]; " {
			t.Errorf("%d: %s%d, not %d", i, tells(l), used, len(ahead))
		}
		// Nor does what follows tell anything, though it is right.
		all := slices.Concat(ahead, b, plainTx(2, nil))
		if l, used := Replay(all); used != len(ahead) || len(l) != 1 {
			t.Errorf("%d: %s%d, not %d, with more behind", i, tells(l), used, len(ahead))
		}
	}
	for _, b := range []string{"", "a", "P", string(plainTx(2, nil)), string(plainTx(0, nil))} {
		replays(t, []byte(b), 0)
	}
}

// P17.1: what Bytes takes, Replay tells, also at the limits.
func TestReplayLimits(t *testing.T) {
	longest := bytes.Repeat([]byte("PQ"), 2048)
	most := slices.Repeat([][]byte{{'P'}}, 1000)
	file := slices.Concat(plainTx(1, most), plainTx(2, [][]byte{longest}), plainTx(3, nil))
	replays(t, file, len(file), most, [][]byte{longest}, nil)
	file = nil
	for n := range 700 {
		file = append(file, plainTx(n+1, nil)...)
	}
	replays(t, file, len(file), make([][][]byte, 700)...)
}

// P17.1: drawn rows of whole and broken frames against the chapter's words.
func TestReplayDrawn(t *testing.T) {
	rnd := rand.New(rand.NewSource(17))
	for range 20000 {
		var b []byte
		for n := 1; rnd.Intn(5) > 0; n++ {
			var l [][]byte
			for range rnd.Intn(4) {
				l = append(l, []byte("PQab")[rnd.Intn(4):])
			}
			frames := []string{"\x20" + opening(n, len(l))}
			for _, x := range l {
				frames = append(frames, "\x21"+string(x))
			}
			frames = append(frames, "\x22"+eight(n))
			at := rnd.Intn(len(frames))
			switch rnd.Intn(14) {
			case 0:
				frames = slices.Delete(frames, at, at+1)
			case 1:
				frames = slices.Insert(frames, at, frames[rnd.Intn(len(frames))])
			case 2:
				f := []byte(frames[at])
				f[rnd.Intn(len(f))] ^= byte(1 << rnd.Intn(8))
				frames[at] = string(f)
			}
			b = append(b, joined(frames...)...)
		}
		switch {
		case len(b) > 0 && rnd.Intn(4) == 0:
			b = b[:rnd.Intn(len(b))]
		case len(b) > 0 && rnd.Intn(4) == 0:
			b[rnd.Intn(len(b))] ^= byte(1 << rnd.Intn(8))
		}
		want, upTo := plainReplay(b)
		if l, used := Replay(b); tells(l) != tells(want) || used != upTo {
			t.Fatalf("Replay(%x): %s%d, not %s%d", b, tells(l), used, tells(want), upTo)
		}
	}
}

// P17.5: what is handed in stays and isn't kept; what is answered may be written over and grown, and nothing else changes by it.
func TestReplayMemory(t *testing.T) {
	file, ends := sampleFile()
	b := append(slices.Clone(file), "behind"...)
	l, _ := Replay(b[:len(file)])
	if !bytes.Equal(b[:len(file)], file) || string(b[len(file):]) != "behind" {
		t.Error("what was handed in was changed")
	}
	clear(b)
	var want []api.Tx
	for i, s := range sample() {
		want = append(want, api.Tx{N: i + 1, Items: s})
	}
	for i := range l {
		if tells(l) != tells(want) {
			t.Fatalf("%s, not %s", tells(l), tells(want))
		}
		for k, x := range l[i].Items {
			clear(x)
			for range 100 {
				x = append(x, 'x')
			}
			want[i].Items[k] = make([]byte, len(l[i].Items[k]))
		}
		l[i].Items = append(l[i].Items, []byte("more"))
		want[i].Items = append(want[i].Items, []byte("more"))
	}
	replays(t, file, ends[4], sample()...)
}
