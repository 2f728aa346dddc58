package head

import (
	"bytes"
	"math/rand"
	"slices"
	"strings"
	"testing"

	"pigeonhole/api"
)

// plainFold is a field as it is written, by the chapter's words.
func plainFold(f api.Field) string {
	line, done := f.Name+": "+f.Value, ""
	for len(line) > 78 {
		near, far := -1, -1
		for i := range len(line) {
			inValue := done != "" || i > len(f.Name)+1
			if line[i] != ' ' || !inValue || strings.Trim(line[i:], " \t") == "" {
				continue
			}
			if i >= 2 && i <= 78 {
				near = i
			} else if i > 78 && far < 0 {
				far = i
			}
		}
		if near < 0 {
			near = far
		}
		if near < 0 {
			break
		}
		done += line[:near] + "\r\n"
		line = line[near:]
	}
	return done + line + "\r\n"
}

// narrow fails, unless no line of what Build makes of a field has more than 78 bytes, but where it can't be folded.
func narrow(t *testing.T, f api.Field, text string) {
	t.Helper()
	for i, line := range strings.Split(strings.TrimSuffix(text, "\r\n"), "\r\n") {
		from := 2
		if i == 0 {
			from = len(f.Name) + 2
		}
		if len(line) > 78 && strings.Contains(strings.TrimRight(line[from:], " \t"), " ") {
			t.Errorf("%q: the line %q has %d bytes", f, line, len(line))
		}
	}
}

// folded fails, unless a field is written as that, and read again from it.
func folded(t *testing.T, f api.Field, want string) {
	t.Helper()
	b, e := Build([]api.Field{f}, []byte("x"))
	if string(b) != want+"\r\nx" || e != api.OK {
		t.Fatalf("%q: %q %v, not %q", f, b, e, want)
	}
	if plain := plainFold(f); plain != want {
		t.Fatalf("%q: %q by the chapter's words, not %q", f, plain, want)
	}
	narrow(t, f, want)
	again(t, []api.Field{f}, []byte("x"))
}

// again fails, unless what is built of fields and a body is split into them.
func again(t *testing.T, l []api.Field, body []byte) {
	t.Helper()
	b, e := Build(l, body)
	if e != api.OK {
		t.Fatalf("Build(%.99q): %v", l, e)
	}
	k, rest, ok := Split(b)
	if !slices.Equal(k, l) || !bytes.Equal(rest, body) || !ok {
		t.Fatalf("Split of Build(%.99q, %.99q): %.99q %.99q %v", l, body, k, rest, ok)
	}
	if s := Lines(b); len(s)+2+len(body) != len(b) || !bytes.HasPrefix(b, s) {
		t.Fatalf("Lines of Build(%.99q, %.99q): %.99q", l, body, s)
	}
}

// P10.1, P10.4: fields as they are written, one behind the other, the end of the head, and the body.
func TestBuild(t *testing.T) {
	for want, in := range map[string]struct {
		l    []api.Field
		body string
	}{
		"\r\n":                             {nil, ""},
		"\r\nhi":                           {nil, "hi"},
		"To: a b\r\n\r\nhi":                {of("To", "a b"), "hi"},
		"To: \r\n\r\n":                     {of("To", ""), ""},
		"a: b \r\nC: \r\na: : \t\r\n\r\n ": {of("a", "b ", "C", "", "a", ": \t"), " "},
		"\r\n\r\n":                         {nil, "\r\n"},
		"\r\na: b\r\n\r\n":                 {nil, "a: b\r\n\r\n"},
		"a: b\r\n\r\n\x00\xff\r\n\n c":     {of("a", "b"), "\x00\xff\r\n\n c"},
	} {
		if b, e := Build(in.l, []byte(in.body)); string(b) != want || e != api.OK {
			t.Errorf("%q: %q %v, not %q", in, b, e, want)
		}
		again(t, in.l, []byte(in.body))
	}
	if b, e := Build([]api.Field{}, nil); string(b) != "\r\n" || e != api.OK {
		t.Errorf("%q %v", b, e)
	}
	again(t, slices.Repeat(of("a", "b c", "d", many("e ", 200)+"f"), 2000), make([]byte, 100000))
}

// P10.1: a field that isn't good, wherever it stands, is refused, whatever the others and the body are.
func TestBuildRefuses(t *testing.T) {
	for _, bad := range of("", "", "", "b", "a b", "c", "a:", "c", "a", " c", "a", "\tc", "a", "\r", "a", "b\r\n c", "a", "\x7f", "a", "\xff", "a", many("b", 900), many("a", 901), "") {
		for at := range 3 {
			l := slices.Insert(of("a", "b", "c", ""), at, bad)
			if b, e := Build(l, []byte("x")); b != nil || e != api.ErrForm {
				t.Errorf("%.99q: %.99q %v", l, b, e)
			}
		}
		if b, e := Build([]api.Field{bad, bad}, nil); b != nil || e != api.ErrForm {
			t.Errorf("%.99q: %.99q %v", bad, b, e)
		}
	}
}

// P10.1, P10.4: a line of 78 bytes stays, one of 79 is folded.
func TestFoldLongest(t *testing.T) {
	a := many("a", 37)
	folded(t, api.Field{Name: "X", Value: a + " " + a}, "X: "+a+" "+a+"\r\n")
	folded(t, api.Field{Name: "X", Value: a + " " + a + "a"}, "X: "+a+"\r\n "+a+"a\r\n")
	folded(t, api.Field{Name: "X", Value: a + " " + a + "  "}, "X: "+a+"\r\n "+a+"  \r\n")
	folded(t, api.Field{Name: "X", Value: a + " " + a + "\t"}, "X: "+a+"\r\n "+a+"\t\r\n")
	b := many("b", 77)
	folded(t, api.Field{Name: "X", Value: "a " + b}, "X: a\r\n "+b+"\r\n")
	folded(t, api.Field{Name: "X", Value: "a " + b + " c"}, "X: a\r\n "+b+"\r\n c\r\n")
	folded(t, api.Field{Name: "X", Value: "a " + b + " " + b + " " + b}, "X: a\r\n "+b+"\r\n "+b+"\r\n "+b+"\r\n")
}

// P10.1, P10.4: the last blank at the places 2 to 78, or the first one behind.
func TestFoldPlaces(t *testing.T) {
	for at := 4; at < 120; at++ {
		a := many("a", at-3)
		folded(t, api.Field{Name: "X", Value: a + " " + many("b", 100)}, "X: "+a+"\r\n "+many("b", 100)+"\r\n")
		folded(t, api.Field{Name: "X", Value: a + " b " + many("c", 100)}, "X: "+a+map[bool]string{true: " b\r\n ", false: "\r\n b\r\n "}[at+2 <= 78]+many("c", 100)+"\r\n")
	}
	a, b := many("a", 75), many("b", 74)
	folded(t, api.Field{Name: "X", Value: a + " b"}, "X: "+a+"\r\n b\r\n")
	folded(t, api.Field{Name: "X", Value: a + "a b"}, "X: "+a+"a\r\n b\r\n")
	folded(t, api.Field{Name: "X", Value: b + "  c"}, "X: "+b+" \r\n c\r\n")
	folded(t, api.Field{Name: "X", Value: a + "  c"}, "X: "+a+"\r\n  c\r\n")
	folded(t, api.Field{Name: "X", Value: many("a", 100) + " b c"}, "X: "+many("a", 100)+"\r\n b c\r\n")
}

// P10.1, P10.4: a line that goes on with two blanks is folded ahead of neither of them, but ahead of a third one.
func TestFoldBlanksAhead(t *testing.T) {
	a, b := many("a", 75), many("b", 100)
	folded(t, api.Field{Name: "X", Value: a + " " + b}, "X: "+a+"\r\n "+b+"\r\n")
	folded(t, api.Field{Name: "X", Value: a + "  " + b}, "X: "+a+"\r\n  "+b+"\r\n")
	folded(t, api.Field{Name: "X", Value: a + "   " + b}, "X: "+a+"\r\n  \r\n "+b+"\r\n")
	folded(t, api.Field{Name: "X", Value: a + "  " + b + " c"}, "X: "+a+"\r\n  "+b+"\r\n c\r\n")
	folded(t, api.Field{Name: "X", Value: a + " \t" + b + " c"}, "X: "+a+"\r\n \t"+b+"\r\n c\r\n")
	folded(t, api.Field{Name: "X", Value: "a" + many(" ", 300) + "b"}, "X: a"+many(" ", 74)+"\r\n"+many(many(" ", 78)+"\r\n", 2)+many(" ", 70)+"b\r\n")
}

// P10.1, P10.4: only blanks are folded at, of the value, and with more than blanks and tabs behind.
func TestFoldNowhere(t *testing.T) {
	for _, f := range of(
		"X", many("a", 100),
		"X", many("a", 100)+" ",
		"X", many("a", 100)+" \t \t",
		"X", many("a\t", 100)+"b",
		"X", "a"+many(" ", 200),
		"X", "a"+many(" \t", 200),
		many("n", 76), "a",
		many("n", 77), "a",
		many("n", 77), "a ",
		many("n", 78), "",
		many("n", 200), "",
		many("n", 900), "",
		many("n", 100), many("a", 800),
		many("n", 77), "\x7e\t\x7e",
	) {
		folded(t, f, f.Name+": "+f.Value+"\r\n")
	}
	for _, n := range []int{74, 75, 76, 77, 78, 100} {
		name := many("n", n)
		folded(t, api.Field{Name: name, Value: "a b"}, map[bool]string{true: name + ": a b\r\n", false: name + ": a\r\n b\r\n"}[n+5 <= 78])
	}
}

// P10.1, P10.4: all fields of names and values whose pieces end near the edges are written as the chapter's words tell.
func TestFoldAllShort(t *testing.T) {
	pieces := []string{"a", " ", "\t", many("b", 36), many("c", 75), many(" ", 77), many("d", 78)}
	each(pieces, 5, func(s string) {
		for _, name := range []string{"N", many("N", 36), many("N", 77)} {
			if f := (api.Field{Name: name, Value: s}); Good(f) {
				folded(t, f, plainFold(f))
			}
		}
	})
}

// word is a drawn piece of a value.
func word(r *rand.Rand) string {
	switch r.Intn(8) {
	case 0:
		return many(" ", 1+r.Intn(4))
	case 1:
		return many("\t", 1+r.Intn(2))
	case 2:
		return many("x", 60+r.Intn(60))
	case 3:
		return ":"
	}
	return many("w", 1+r.Intn(12)) + " "
}

// drawnField is a drawn field, a good one.
func drawnField(r *rand.Rand) api.Field {
	f := api.Field{Name: many("N", 1+r.Intn(12))}
	if r.Intn(8) == 0 {
		f.Name = many("N", 70+r.Intn(20))
	}
	for range r.Intn(60) {
		f.Value += word(r)
	}
	f.Value = strings.TrimLeft(f.Value, " \t")
	f.Value = f.Value[:min(len(f.Value), 900-len(f.Name))]
	return f
}

// P10.1, P10.4: so are drawn ones; and drawn lists of them with a body are split again.
func TestFoldDrawn(t *testing.T) {
	r := rand.New(rand.NewSource(10))
	for range 4000 {
		var l []api.Field
		want := ""
		for range r.Intn(6) {
			f := drawnField(r)
			folded(t, f, plainFold(f))
			l, want = append(l, f), want+plainFold(f)
		}
		body := make([]byte, r.Intn(40))
		r.Read(body)
		if b, e := Build(l, body); string(b) != want+"\r\n"+string(body) || e != api.OK {
			t.Fatalf("%.99q: %.99q %v", l, b, e)
		}
		again(t, l, body)
	}
}

// P10.4: what is handed in stays, and what lies behind its length is neither read nor written.
func TestBuildHandedInStays(t *testing.T) {
	l := of("a", "b", "c", many("d ", 60)+"e", "", "bad")
	body := []byte("body and more")
	was, text := slices.Clone(l), string(body)
	for n := range len(l) + 1 {
		for m := range len(body) + 1 {
			b, e := Build(l[:n], body[:m])
			if (e == api.OK) != (n < 3) || e == api.OK && !strings.HasSuffix(string(b), "\r\n"+text[:m]) {
				t.Errorf("%d, %d: %q %v", n, m, b, e)
			}
			if !slices.Equal(l, was) || string(body) != text {
				t.Fatalf("%d, %d: left %q %q", n, m, l, body)
			}
		}
	}
}

// P10.4: what is built is new memory.
func TestBuildIsNew(t *testing.T) {
	body := []byte("body")
	for _, l := range [][]api.Field{nil, of("a", "b")} {
		a, _ := Build(l, body)
		b, _ := Build(l, body)
		want := string(a)
		clear(b)
		_ = append(b, "more"...)
		if string(a) != want || string(body) != "body" {
			t.Errorf("%q, left %q", a, body)
		}
		copy(body, "else")
		if string(a) != want {
			t.Errorf("%q", a)
		}
		copy(body, "body")
	}
}
