package head

import (
	"slices"
	"strings"
	"testing"

	"pigeonhole/api"
)

// many is a text so often in a row.
func many(s string, n int) string {
	return strings.Repeat(s, n)
}

// one is the text of one byte, even if that is no rune.
func one(v int) string {
	return string([]byte{byte(v)})
}

// of are fields of names and values, one behind the other.
func of(texts ...string) []api.Field {
	var l []api.Field
	for i := 0; i < len(texts); i += 2 {
		l = append(l, api.Field{Name: texts[i], Value: texts[i+1]})
	}
	return l
}

// plainName tells whether a text is a name, by the chapter's words.
func plainName(s string) bool {
	for _, v := range []byte(s) {
		if v < 0x21 || v > 0x7e || v == 0x3a {
			return false
		}
	}
	return len(s) > 0
}

// plainGood tells whether a field is right, by the chapter's words.
func plainGood(f api.Field) bool {
	if !plainName(f.Name) || len(f.Name)+len(f.Value) > 900 {
		return false
	}
	for i, v := range []byte(f.Value) {
		if v != 0x09 && (v < 0x20 || v > 0x7e) || i == 0 && (v == 0x20 || v == 0x09) {
			return false
		}
	}
	return true
}

// good fails, unless a field is told right, or not, and Build takes it, or refuses it.
func good(t *testing.T, f api.Field, want bool) {
	t.Helper()
	if plainGood(f) != want {
		t.Fatalf("plainGood(%.99q)", f)
	}
	if Good(f) != want {
		t.Errorf("Good(%.99q): %v", f, !want)
	}
	l := []api.Field{{Name: "a", Value: "b"}, f, {Name: "c"}}
	if b, e := Build(l, []byte("x")); (e == api.OK) != want || e != api.OK && (e != api.ErrForm || b != nil) {
		t.Errorf("Build of %.99q: %.99q %v", f, b, e)
	}
}

// P10.1: good fields, and what is none.
func TestGood(t *testing.T) {
	for _, l := range of("a", "", "a", "b", "To", "a b", "!", "~", "X-Y_z.1/2", ": :", "a", "b ", "a", "b\t", "a", "b \t c", "\"", "\"", "a", ":", "a", "~", "a", "!") {
		good(t, l, true)
	}
	for _, l := range of("", "", "", "b", ":", "b", "a:", "b", ":a", "b", "a b", "c", " a", "b", "a ", "b", "a\t", "b", "a\r\n", "b", "\u00e9", "b", "a", " ", "a", "\t", "a", " b", "a", "\tb", "a", "b\r\n", "a", "b\r\n c", "a", "\r", "a", "\n", "a", "b\x00", "a", "\u00e9", "a", "\xff") {
		good(t, l, false)
	}
}

// P10.1: each byte alone, at both ends of and within a name and a value.
func TestGoodEachByte(t *testing.T) {
	for v := range 256 {
		b := one(v)
		name := v >= 0x21 && v <= 0x7e && v != ':'
		for _, s := range []string{b, b + "x", "x" + b, "x" + b + "x"} {
			good(t, api.Field{Name: s}, name)
			good(t, api.Field{Name: s, Value: "y"}, name)
			first := s[0] != ' ' && s[0] != '\t'
			good(t, api.Field{Name: "a", Value: s}, (v >= 0x20 && v <= 0x7e || v == 9) && first)
		}
	}
}

// P10.1: 900 bytes together are the most.
func TestGoodLength(t *testing.T) {
	for _, n := range []int{1, 2, 78, 449, 450, 899, 900} {
		for _, s := range []string{"v", "v ", "v\t"} {
			value := many(s, 900)
			good(t, api.Field{Name: many("n", n), Value: value[:900-n]}, true)
			good(t, api.Field{Name: many("n", n), Value: value[:901-n]}, false)
		}
	}
	good(t, api.Field{Name: many("n", 901)}, false)
	good(t, api.Field{Value: many("v", 900)}, false)
	good(t, api.Field{Name: "n", Value: many("v", 1<<20)}, false)
	good(t, api.Field{Name: many("n", 1<<20)}, false)
}

// letter tells whether two bytes are the same one, letters great or small, by the chapter's words.
func letter(v, w int) bool {
	return v == w || v >= 'A' && v <= 'Z' && w == v+32 || v >= 'a' && v <= 'z' && w == v-32
}

// picked fails, unless the fields of a name, and the other ones, are those that are told by their places.
func picked(t *testing.T, l []api.Field, name string, places ...int) {
	t.Helper()
	var want []string
	var others []api.Field
	for i, f := range l {
		if slices.Contains(places, i) {
			want = append(want, f.Value)
		} else {
			others = append(others, f)
		}
	}
	if v := Get(l, name); !slices.Equal(v, want) {
		t.Errorf("Get(%.99q, %q): %q, not %q", l, name, v, want)
	}
	if r := Without(l, name); !slices.Equal(r, others) {
		t.Errorf("Without(%.99q, %q): %q, not %q", l, name, r, others)
	}
}

// P10.3: the fields of a name, in their order, and the other ones.
func TestGetAndWithout(t *testing.T) {
	l := of("To", "a", "X", "b", "tO", "c", "From", "", "TO", "a", "To-Do", "d", "T", "e")
	for _, name := range []string{"to", "To", "tO", "TO"} {
		picked(t, l, name, 0, 2, 4)
	}
	picked(t, l, "x", 1)
	picked(t, l, "FROM", 3)
	picked(t, l, "to-do", 5)
	picked(t, l, "t", 6)
	for _, name := range []string{"", "o", "to ", " to", "to:", "too", "date", "to\x00", many("to", 100000)} {
		picked(t, l, name)
	}
	picked(t, nil, "a")
	picked(t, []api.Field{}, "a")
	picked(t, of("a", "b"), "a", 0)
	l = slices.Repeat(of("a", "b", "c", "d"), 50000)
	if len(Get(l, "C")) != 50000 || len(Without(l, "C")) != 50000 {
		t.Errorf("of many fields")
	}
}

// P10.3: names of any bytes, with each other; only letters from A to Z are great or small.
func TestGetEachByte(t *testing.T) {
	for v := range 256 {
		for w := range 256 {
			l := of("x"+one(v)+"y", "a")
			if letter(v, w) {
				picked(t, l, "X"+one(w)+"Y", 0)
			} else {
				picked(t, l, "X"+one(w)+"Y")
			}
		}
	}
	l := of("", "a", "k", "b", "\u212a", "c", "\xff", "d", "\xfe", "e", "\u00e9", "f", "\u00c9", "g", "\ufffd", "h", "s", "i", "\u017f", "j", " k", "l")
	for i, f := range l {
		picked(t, l, f.Name, i)
	}
	picked(t, l, "K", 1)
	picked(t, l, "S", 8)
	picked(t, l, "\xfd")
}

// P10.4: lists handed in stay, and what lies behind their length is neither read nor written; lists answered are new.
func TestListsHandedInStay(t *testing.T) {
	l := of("a", "1", "A", "2", "b", "3", "a", "4")
	was := slices.Clone(l)
	for n := range len(l) + 1 {
		v, r := Get(l[:n], "a"), Without(l[:n], "a")
		again, rest := Get(l[:n], "a"), Without(l[:n], "a")
		if len(v)+len(r) != n {
			t.Errorf("of %d: %q %q", n, v, r)
		}
		for i := range v {
			v[i] = "x"
		}
		clear(r)
		_ = append(v, "y", "z")
		_ = append(r, api.Field{}, api.Field{}, api.Field{}, api.Field{})
		if !slices.Equal(l, was) {
			t.Fatalf("of %d: left %q", n, l)
		}
		picked(t, l[:n], "b", slices.DeleteFunc([]int{2}, func(i int) bool { return i >= n })...)
		if slices.Contains(again, "x") || slices.Contains(rest, api.Field{}) {
			t.Errorf("of %d: %q %q", n, again, rest)
		}
	}
	r := Without(l, "c")
	l[0].Value = "other"
	if !slices.Equal(r, was) {
		t.Errorf("%q", r)
	}
}
