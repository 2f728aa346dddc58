package dsn

import (
	"bytes"
	"math/rand"
	"slices"
	"strconv"
	"strings"
	"testing"
)

// plainMark is a mark, by the chapter's words.
func plainMark(id, head string) string {
	for n := 0; ; n++ {
		mark := "ph-" + id + "-" + strconv.Itoa(n)
		if !slices.ContainsFunc(strings.Split(head, "\r\n"), func(line string) bool { return strings.HasPrefix(line, "--"+mark) }) {
			return mark
		}
	}
}

// marked fails, unless an id and a head have that mark.
func marked(t *testing.T, id, head, want string) {
	t.Helper()
	if m := Mark(id, []byte(head)); m != want {
		t.Errorf("Mark(%.99q, %.99q): %q, not %q", id, head, m, want)
	}
}

// P11.1: the least number of which no line's beginning is the mark.
func TestMark(t *testing.T) {
	for head, want := range map[string]string{
		"":                                 "ph-7-0",
		"a\r\n":                            "ph-7-0",
		"--ph-7-0\r\n":                     "ph-7-1",
		"--ph-7-1\r\n":                     "ph-7-0",
		"--ph-7-1\r\n--ph-7-0\r\n":         "ph-7-2",
		"--ph-7-0\r\n--ph-7-0\r\n":         "ph-7-1",
		"--ph-7-0\r\n--ph-7-2\r\n":         "ph-7-1",
		"a\r\n\r\n--ph-7-0\r\n":            "ph-7-1",
		"--ph-7-0--\r\n":                   "ph-7-1",
		"--ph-7-0 and more\r\n":            "ph-7-1",
		"--ph-7-0x\r\n--ph-7-1:\r\n":       "ph-7-2",
		"--ph-7-00\r\n":                    "ph-7-1",
		"--ph-7-01\r\n":                    "ph-7-1",
		"--ph-7-10\r\n":                    "ph-7-0",
		"--ph-7-0\r\n--ph-7-10\r\n":        "ph-7-2",
		"--ph-7-0\r\n--ph-7-21\r\n":        "ph-7-1",
		"--ph-7-\r\n--ph-7\r\n--\r\n\r\n":  "ph-7-0",
		"--ph-7--0\r\n--ph-7-+0\r\n":       "ph-7-0",
		"---ph-7-0\r\n -ph-7-0\r\n":        "ph-7-0",
		" --ph-7-0\r\na--ph-7-0\r\n":       "ph-7-0",
		"-ph-7-0\r\nph-7-0\r\n":            "ph-7-0",
		"--PH-7-0\r\n--Ph-7-0\r\n":         "ph-7-0",
		"--ph-8-0\r\n--ph-77-0\r\n":        "ph-7-0",
		"--ph-07-0\r\n--ph- 7-0\r\n":       "ph-7-0",
		"a: b\r\n\t--ph-7-0\r\n":           "ph-7-0",
		"--ph-7-\u0660\r\n":                "ph-7-0",
		"--ph-7-0\r\n--ph-7-1844674407370": "ph-7-2",
	} {
		marked(t, "7", head, want)
		if p := plainMark("7", head); p != want {
			t.Errorf("plainMark(%q): %q", head, p)
		}
	}
}

// P11.1: numbers of many digits, and beyond what an int has, take just the numbers that they begin with.
func TestMarkLongNumbers(t *testing.T) {
	lines := func(numbers ...string) string {
		return "--ph-7-" + strings.Join(numbers, "\r\n--ph-7-") + "\r\n"
	}
	marked(t, "7", lines(many("9", 100000)), "ph-7-0")
	marked(t, "7", lines("0", many("1", 100000)), "ph-7-2")
	marked(t, "7", lines("18446744073709551616"), "ph-7-0")
	marked(t, "7", lines("18446744073709551616", "0"), "ph-7-2")
	marked(t, "7", lines("18446744073709551618", "0"), "ph-7-2")
	marked(t, "7", lines("9223372036854775808", "-9223372036854775808"), "ph-7-0")
	marked(t, "7", lines("0", "10", "20", "30", "40", "50", "60", "70", "80", "90"), "ph-7-11")
	marked(t, "7", lines("0", "11", "20", "30", "40", "50", "60", "70", "80", "90", "100"), "ph-7-12")
	marked(t, "7", lines("0", "12", "20", "30", "40", "50", "60", "70", "80", "90", "108"), "ph-7-11")
}

// P11.1: as many numbers as there are, in any order, and one that is left out.
func TestMarkMany(t *testing.T) {
	r := rand.New(rand.NewSource(11))
	for _, size := range []int{1, 9, 10, 11, 99, 100, 101, 1000, 50000} {
		places := r.Perm(size)
		var b []byte
		for _, n := range places {
			b = append(b, "--ph-a-"+strconv.Itoa(n)+"\r\n"...)
		}
		marked(t, "a", string(b), "ph-a-"+strconv.Itoa(size))
		marked(t, "b", string(b), "ph-b-0")
		// The greatest number begins no other one, and without its line it is taken by none.
		last := strconv.Itoa(size - 1)
		marked(t, "a", strings.Replace(string(b), "--ph-a-"+last+"\r\n", "", 1), "ph-a-"+last)
	}
}

// P11.1: ids of any bytes, and heads that no right report has: a line ends with CR LF alone, and the last one may lack its end.
func TestMarkAny(t *testing.T) {
	for _, id := range []string{"", "-", "a-0", "a b", "--", "0", "7-0", "\x00", "\xff", "\u00e9", "\r", "\n", "a\r", "\nb", many("i", 100000)} {
		marked(t, id, "", "ph-"+id+"-0")
		marked(t, id, "--ph-"+id+"-0\r\n", "ph-"+id+"-1")
		marked(t, id, "--ph-"+id+"-0", "ph-"+id+"-1")
		marked(t, id, "a\r\n--ph-"+id+"-0x", "ph-"+id+"-1")
		marked(t, id, "a\n--ph-"+id+"-0\r\n", "ph-"+id+"-0")
		marked(t, id, "a\r--ph-"+id+"-0\r\n", "ph-"+id+"-0")
	}
	for _, id := range []string{"\r\n", "a\r\nb", "\r\n--ph-"} {
		marked(t, id, "--ph-"+id+"-0\r\n", "ph-"+id+"-0")
		marked(t, id, "--ph-"+id+"-0", "ph-"+id+"-0")
	}
}

// P11.1: all heads of few pieces have the mark that the chapter's words tell.
func TestMarkAllShort(t *testing.T) {
	each([]string{"--ph-7-", "0", "1", "2", "\r\n", "\n", "-", "\r\n--ph-7-1"}, 6, func(s string) {
		marked(t, "7", s, plainMark("7", s))
		marked(t, "7", "--ph-7-0\r\n--ph-7-"+s, plainMark("7", "--ph-7-0\r\n--ph-7-"+s))
	})
}

// P11.4: the head that is asked stays, and what lies behind its length is not read.
func TestMarkHandedInStays(t *testing.T) {
	whole := []byte("--ph-7-0\r\n--ph-7-1\r\n--ph-7-2")
	was := string(whole)
	for n := range len(whole) + 1 {
		if m := Mark("7", whole[:n]); m != plainMark("7", was[:n]) {
			t.Errorf("%d bytes: %q", n, m)
		}
		if string(whole) != was {
			t.Fatalf("%d bytes: left %q", n, whole)
		}
	}
}

// plainParts is what stands between marks, by the chapter's words.
func plainParts(s, mark string) ([]string, bool) {
	if !strings.HasSuffix(s, "\r\n") {
		return nil, false
	}
	l := strings.Split(strings.TrimSuffix(s, "\r\n"), "\r\n")
	end := slices.Index(l, "--"+mark+"--")
	if l[0] != "--"+mark || end != len(l)-1 {
		return nil, false
	}
	var parts []string
	for _, line := range l[:end] {
		if line == "--"+mark {
			parts = append(parts, "")
		} else {
			parts[len(parts)-1] += line + "\r\n"
		}
	}
	return parts, true
}

// parted fails, unless the parts of a body are those that the chapter's words tell, or none; it tells how many there are.
func parted(t *testing.T, s, mark string) int {
	t.Helper()
	want, is := plainParts(s, mark)
	l, ok := Parts([]byte(s), mark)
	same := slices.EqualFunc(l, want, func(b []byte, s string) bool { return string(b) == s })
	if !same || ok != is || !ok && l != nil {
		t.Fatalf("Parts(%.99q, %.99q): %.99q %v, not %.99q %v", s, mark, l, ok, want, is)
	}
	return len(l)
}

// P11.2: what stands between the lines, part by part.
func TestParts(t *testing.T) {
	for s, want := range map[string][]string{
		"--m\r\na\r\n--m--\r\n":                                 {"a\r\n"},
		"--m\r\n--m--\r\n":                                      {""},
		"--m\r\n--m\r\n--m--\r\n":                               {"", ""},
		"--m\r\na\r\n--m\r\nb\r\n\r\nc\r\n--m--\r\n":            {"a\r\n", "b\r\n\r\nc\r\n"},
		"--m\r\n\r\n--m\r\n--m\r\n\r\n\r\n--m--\r\n":            {"\r\n", "", "\r\n\r\n"},
		"--m\r\n--mm\r\n--m-\r\n--m---\r\n-m\r\nm\r\n--m--\r\n": {"--mm\r\n--m-\r\n--m---\r\n-m\r\nm\r\n"},
		"--m\r\n --m\r\n--m \r\n--M\r\n ---m--\r\n--m--\r\n":    {" --m\r\n--m \r\n--M\r\n ---m--\r\n"},
		"--m\r\na\n--m--\n\r--m\r\n--m--\r\n":                   {"a\n--m--\n\r--m\r\n"},
		"--m\r\n\x00\xff\r\r\n--m--\r\n":                        {"\x00\xff\r\r\n"},
	} {
		l, ok := Parts([]byte(s), "m")
		if !ok || !slices.EqualFunc(l, want, func(b []byte, s string) bool { return string(b) == s }) {
			t.Errorf("%q: %q %v", s, l, ok)
		}
		parted(t, s, "m")
	}
}

// P11.2: bodies whose first line, or whose last one, isn't as told, or that go on behind it.
func TestPartsNone(t *testing.T) {
	for _, s := range []string{
		"", "\r\n", "a", "m", "--m", "--m--", "--m\r\n", "--m--\r\n", "--m\r\na\r\n", "--m\r\n--m\r\n", "--m\r\n\r\n",
		"a\r\n--m\r\n--m--\r\n", "\r\n--m\r\n--m--\r\n", " --m\r\n--m--\r\n", "--m \r\n--m--\r\n", "--M\r\n--m--\r\n", "--mm\r\n--m--\r\n", "-m\r\n--m--\r\n", "m\r\n--m--\r\n", "--\r\n--m--\r\n", "--m--\r\n--m--\r\n", "--m--\r\n--m\r\n--m--\r\n",
		"--m\n--m--\r\n", "--m\r--m--\r\n", "--m\r\r\n--m--\r\n", "--m\n\r\n--m--\r\n",
		"--m\r\n--m--", "--m\r\n--m--\r", "--m\r\n--m--\n", "--m\r\na\r\n--m--", "--m\r\n--m-\r\n", "--m\r\n--m---\r\n", "--m\r\n--m-- \r\n", "--m\r\n --m--\r\n", "--m\r\n--M--\r\n", "--m\r\n--m--\r\r\n",
		"--m\r\n--m--\r\nx", "--m\r\n--m--\r\n\r\n", "--m\r\n--m--\r\n ", "--m\r\n--m--\r\n\x00", "--m\r\n--m--\r\n--m--\r\n", "--m\r\n--m--\r\n--m\r\n--m--\r\n", "--m\r\n--m--\r\n--m\r\n", "--m\r\n--m--\r\n--m--",
	} {
		if l, ok := Parts([]byte(s), "m"); l != nil || ok {
			t.Errorf("%q: %q %v", s, l, ok)
		}
		parted(t, s, "m")
	}
}

// P11.2: marks of any bytes.
func TestPartsAnyMark(t *testing.T) {
	for _, m := range []string{"", "-", "--", "m--", " ", "a b", "ph-7-0", "\x00", "\xff", "\u00e9", "\r", "\n", "a\r", "\na", many("m", 100000)} {
		if n := parted(t, "--"+m+"\r\na\r\n--"+m+"\r\n\r\n--"+m+"--\r\n", m); n != 2 {
			t.Errorf("by %.99q: %d", m, n)
		}
		if n := parted(t, "--"+m+"x\r\na\r\n--"+m+"--\r\n", m); n != 0 {
			t.Errorf("by %.99q: %d", m, n)
		}
	}
	// No line has a line's end within.
	for _, m := range []string{"\r\n", "a\r\nb", "m\r\n"} {
		if n := parted(t, "--"+m+"\r\n--"+m+"--\r\n", m); n != 0 {
			t.Errorf("by %q: %d", m, n)
		}
	}
}

// P11.2: all bodies of few pieces have the parts that the chapter's words tell.
func TestPartsAllShort(t *testing.T) {
	each([]string{"--m\r\n", "--m--\r\n", "a", "\r\n", "--m", "--", "\n"}, 6, func(s string) {
		parted(t, s, "m")
		parted(t, s, "")
		parted(t, "--m\r\n"+s, "m")
	})
}

// P11.2: a body of many lines and parts.
func TestPartsMany(t *testing.T) {
	if n := parted(t, many("--m\r\na\r\nb\r\n", 20000)+"--m--\r\n", "m"); n != 20000 {
		t.Errorf("%d", n)
	}
	if n := parted(t, "--m\r\n"+many("a", 1<<20)+"\r\n--m--\r\n", "m"); n != 1 {
		t.Errorf("%d", n)
	}
}

// P11.4: the body that is handed in stays, and what lies behind its length is neither read nor written.
func TestPartsHandedInStays(t *testing.T) {
	whole := []byte("--m\r\na\r\n--m\r\nb\r\n--m--\r\nmore")
	was := string(whole)
	for n := range len(whole) + 1 {
		want, is := plainParts(was[:n], "m")
		if l, ok := Parts(whole[:n], "m"); ok != is || len(l) != len(want) {
			t.Errorf("%d bytes: %q %v", n, l, ok)
		}
		if string(whole) != was {
			t.Fatalf("%d bytes: left %q", n, whole)
		}
	}
}

// P11.4: parts are new memory: each stays when the body, another answer, or another part is written over or grown.
func TestPartsAreNew(t *testing.T) {
	body := []byte("--m\r\na\r\n--m\r\nb\r\n--m\r\n--m\r\nc\r\n--m--\r\n")
	was := string(body)
	l, _ := Parts(body, "m")
	k, _ := Parts(body, "m")
	for i := range k {
		clear(append(k[i], "more bytes than there are"...))
		clear(k[i])
	}
	clear(k)
	if string(body) != was {
		t.Errorf("left %q", body)
	}
	for i := range l {
		_ = append(l[i], "more"...)
	}
	clear(body)
	for i, s := range []string{"a\r\n", "b\r\n", "", "c\r\n"} {
		if !bytes.Equal(l[i], []byte(s)) {
			t.Errorf("part %d: %q", i, l[i])
		}
		clear(l[i])
	}
}
