package record

import (
	"encoding/binary"
	"fmt"
	"math"
	"math/rand"
	"slices"
	"testing"

	"pigeonhole/api"
	"pigeonhole/frame"
)

// plainField is a field by the chapter's words: its name, its bytes, and from where to where it goes.
type plainField struct {
	name        string
	bytes       int
	least, most int
}

// plainKinds are what each kind tells, in its order.
var plainKinds = map[int][]plainField{
	1: {{"User", 2, 1, 999}, {"Seq", 4, 1, 1 << 31}, {"Next", 4, 1, 1<<31 + 1}, {"Base", 4, 0, 1 << 31}},
	2: {{"Uid", 4, 1, 1 << 31}, {"Time", 8, 0, 1 << 52}, {"Flags", 1, 0, 31}, {"Body", 4, 1, 1 << 31}, {"Size", 4, 0, 32768}, {"Origin", 8, 0, 1 << 53}},
	3: {{"Uid", 4, 1, 1 << 31}},
	4: {{"Uid", 4, 1, 1 << 31}, {"Flags", 1, 0, 31}},
	5: {{"Next", 4, 1, 1<<31 + 1}},
	6: {{"Body", 4, 1, 1 << 31}},
}

// plainNames are all fields that are numbers.
var plainNames = []string{"User", "Seq", "Next", "Base", "Uid", "Time", "Flags", "Body", "Size", "Origin"}

// place is where a record has the field with a name.
func place(r *api.Rec, name string) *int {
	return map[string]*int{
		"User": &r.User, "Seq": &r.Seq, "Next": &r.Next, "Base": &r.Base, "Uid": &r.Uid,
		"Time": &r.Time, "Flags": &r.Flags, "Body": &r.Body, "Size": &r.Size, "Origin": &r.Origin,
	}[name]
}

// plainCheck is Check by the chapter's words.
func plainCheck(r api.Rec) api.Errno {
	fields, ok := plainKinds[r.Kind]
	if !ok {
		return api.ErrKind
	}
	for _, f := range fields {
		if v := *place(&r, f.name); v < f.least || v > f.most {
			return api.ErrArg
		}
	}
	if r.Kind == 6 && len(r.Data) > 32768 {
		return api.ErrLarge
	}
	for _, name := range plainNames {
		tells := slices.ContainsFunc(fields, func(f plainField) bool { return f.name == name })
		if !tells && *place(&r, name) != 0 {
			return api.ErrForm
		}
	}
	if r.Kind != 6 && len(r.Data) != 0 {
		return api.ErrForm
	}
	return api.OK
}

// plainPayload is a right record's payload.
func plainPayload(r api.Rec) []byte {
	var b []byte
	for _, f := range plainKinds[r.Kind] {
		eight := binary.BigEndian.AppendUint64(nil, uint64(*place(&r, f.name)))
		b = append(b, eight[8-f.bytes:]...)
	}
	return append(b, r.Data...)
}

// plainRead is Read by the chapter's words.
func plainRead(kind int, payload []byte) (api.Rec, api.Errno) {
	fields, ok := plainKinds[kind]
	if !ok {
		return api.Rec{}, api.ErrKind
	}
	r := api.Rec{Kind: kind}
	fault := api.OK
	for _, f := range fields {
		if len(payload) < f.bytes {
			return api.Rec{}, api.ErrShort
		}
		v := uint64(0)
		for _, x := range payload[:f.bytes] {
			v = v*256 + uint64(x)
		}
		if v < uint64(f.least) || v > uint64(f.most) {
			fault = api.ErrArg
		}
		*place(&r, f.name) = int(v)
		payload = payload[f.bytes:]
	}
	switch {
	case kind != 6 && len(payload) > 0:
		return api.Rec{}, api.ErrForm
	case len(payload) > 32768:
		return api.Rec{}, api.ErrLarge
	case fault != api.OK:
		return api.Rec{}, fault
	}
	r.Data = payload
	return r, api.OK
}

// plainScan is Scan by the chapter's words.
func plainScan(b []byte) (l []api.Found, broken int) {
	in := make([]bool, len(b))
	frames, _ := frame.Scan(b)
	for _, f := range frames {
		r, e := plainRead(f.Kind, f.Payload)
		if e != api.OK {
			continue
		}
		l = append(l, api.Found{At: f.At, Len: f.Len, Rec: r})
		for i := range f.Len {
			in[f.At+i] = true
		}
	}
	for _, x := range in {
		if !x {
			broken++
		}
	}
	return l, broken
}

// tells is a record as a text, one without data as one with none.
func tells(r api.Rec) string {
	return fmt.Sprintf("%d: %d %d %d %d, %d %d %d, %d %d %d, %x", r.Kind, r.User, r.Seq, r.Next, r.Base, r.Uid, r.Time, r.Flags, r.Body, r.Size, r.Origin, r.Data)
}

// tellsAll is what was found as a text.
func tellsAll(l []api.Found) string {
	s := ""
	for _, f := range l {
		s += fmt.Sprintf("%d+%d %s\n", f.At, f.Len, tells(f.Rec))
	}
	return s
}

// drawRight draws a record that is right.
func drawRight(rnd *rand.Rand) api.Rec {
	r := api.Rec{Kind: 1 + rnd.Intn(6)}
	for _, f := range plainKinds[r.Kind] {
		v := []int{f.least, f.most, f.least + rnd.Intn(f.most-f.least+1), min(f.most, f.least+0x50+rnd.Intn(2))}
		*place(&r, f.name) = v[rnd.Intn(len(v))]
	}
	if r.Kind == 6 {
		r.Data = make([]byte, rnd.Intn(20))
		rnd.Read(r.Data)
	}
	return r
}

// spoil sets one field of a record to something else.
func spoil(rnd *rand.Rand, r *api.Rec) {
	strange := []int{0, 1, -1, 31, 32, 999, 1000, 32768, 32769, 1 << 31, 1<<31 + 1, 1<<31 + 2, 1 << 52, 1<<52 + 1, 1 << 53, 1<<53 + 1, math.MinInt, math.MaxInt}
	switch rnd.Intn(8) {
	case 0:
		r.Data = make([]byte, []int{0, 1, 32768, 32769}[rnd.Intn(4)])
	case 1:
		r.Kind = []int{-1, 0, 1, 2, 3, 4, 5, 6, 7, 256, 257, math.MinInt, math.MaxInt}[rnd.Intn(13)]
	default:
		*place(r, plainNames[rnd.Intn(len(plainNames))]) = strange[rnd.Intn(len(strange))]
	}
}

// P14.1, P14.4: drawn records, right ones and spoilt ones, against the chapter's words.
func TestDrawnRecords(t *testing.T) {
	rnd := rand.New(rand.NewSource(141))
	for range 40000 {
		r := drawRight(rnd)
		for range rnd.Intn(4) {
			spoil(rnd, &r)
		}
		want := plainCheck(r)
		if e := Check(r); e != want {
			t.Fatalf("Check(%s): %d, not %d", tells(r), e, want)
		}
		var payload, wrapped []byte
		if want == api.OK {
			payload = plainPayload(r)
			wrapped, _ = frame.Wrap(r.Kind, payload)
		}
		if b, e := Payload(r); e != want || !slices.Equal(b, payload) {
			t.Fatalf("Payload(%s): %x %d, not %x %d", tells(r), b, e, payload, want)
		}
		if b, e := Frame(r); e != want || !slices.Equal(b, wrapped) {
			t.Fatalf("Frame(%s): %x %d, not %x %d", tells(r), b, e, wrapped, want)
		}
		if want == api.OK {
			back(t, r, payload)
		}
	}
}

// back fails, where a payload isn't read as the record that it is of.
func back(t *testing.T, r api.Rec, payload []byte) {
	t.Helper()
	if x, e := Read(r.Kind, payload); e != api.OK || tells(x) != tells(r) || !Same(x, r) {
		t.Fatalf("Read(%d, %x): %s %d, not %s", r.Kind, payload, tells(x), e, tells(r))
	}
}

// P14.2: payloads turned, cut and lengthened, against the chapter's words.
func TestDrawnPayloads(t *testing.T) {
	rnd := rand.New(rand.NewSource(142))
	for range 60000 {
		r := drawRight(rnd)
		b := plainPayload(r)
		for range rnd.Intn(3) {
			switch rnd.Intn(4) {
			case 0:
				b = b[:rnd.Intn(len(b)+1)]
			case 1:
				b = append(b, make([]byte, []int{1, 4, 32768, 32769}[rnd.Intn(4)])...)
			case 2:
				if len(b) > 0 {
					b[rnd.Intn(len(b))] = []byte{0, 1, 127, 128, 255}[rnd.Intn(5)]
				}
			case 3:
				r.Kind = rnd.Intn(9) - 1
			}
		}
		want, f := plainRead(r.Kind, b)
		if x, e := Read(r.Kind, b); e != f || tells(x) != tells(want) {
			t.Fatalf("Read(%d, %x): %s %d, not %s %d", r.Kind, b, tells(x), e, tells(want), f)
		}
	}
}

// drawRow draws bytes in which frames stand: of right records, of others, whole ones and broken ones.
func drawRow(rnd *rand.Rand) []byte {
	var b []byte
	for range rnd.Intn(6) {
		r := drawRight(rnd)
		w, _ := frame.Wrap(r.Kind, plainPayload(r))
		switch rnd.Intn(6) {
		case 0:
			w[rnd.Intn(len(w))] = byte(rnd.Intn(256))
		case 1:
			w = w[:rnd.Intn(len(w))]
		case 2:
			w, _ = frame.Wrap(rnd.Intn(9), []byte{0, 0, 0, byte(rnd.Intn(2))}[rnd.Intn(2):])
		case 3:
			b = append(b, "P\x51more"[rnd.Intn(4):]...)
		}
		b = append(b, w...)
	}
	return b
}

// P14.3: rows of frames, some of no record and some broken, against the chapter's words.
func TestDrawnRows(t *testing.T) {
	rnd := rand.New(rand.NewSource(143))
	for range 20000 {
		b := drawRow(rnd)
		want, lost := plainScan(b)
		if l, broken := Scan(b); broken != lost || tellsAll(l) != tellsAll(want) {
			t.Fatalf("Scan(%x): %s%d, not %s%d", b, tellsAll(l), broken, tellsAll(want), lost)
		}
	}
}
