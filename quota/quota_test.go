package quota

import (
	"math"
	"math/big"
	"math/rand"
	"slices"
	"testing"

	"pigeonhole/api"
)

// most is the greatest sum.
const most = 1 << 53

// edges are numbers at the edges of what is a sum, of what may stand in a limit, and of what an int has.
var edges = []int{math.MinInt, math.MinInt + 1, -1 << 62, -1 << 54, -most - 1, -most, -most + 1, -3, -2, -1, 0, 1, 2, 3, 59, 60, 61, 100, most / 2, most/2 + 1, most - 61, most - 60, most - 59, most - 2, most - 1, most, most + 1, most + 2, 1 << 54, 1 << 62, math.MaxInt - most, math.MaxInt - 1, math.MaxInt}

// few are those of the edges that are told in pairs of pairs.
var few = []int{math.MinInt, -2, -1, 0, 1, 2, 60, most - 1, most, most + 1, math.MaxInt}

// total is a sum by exact numbers: -1 of what is none.
func total(l ...int) int {
	sum := new(big.Int)
	for _, n := range l {
		if n < 0 || n > most {
			return -1
		}
		sum.Add(sum, big.NewInt(int64(n)))
	}
	if sum.Cmp(big.NewInt(most)) > 0 {
		return -1
	}
	return int(sum.Int64())
}

// plainSum tells whether a number is a sum, by the chapter's words.
func plainSum(n int) bool {
	return total(n) != -1
}

// plainUse tells whether that is a use, by the chapter's words.
func plainUse(u api.Use) bool {
	return plainSum(u.Bytes) && plainSum(u.Count)
}

// plainGood tells whether that is a limit, by the chapter's words.
func plainGood(l api.Limit) bool {
	return (l.Bytes == -1 || plainSum(l.Bytes)) && (l.Count == -1 || plainSum(l.Count))
}

// plainPut is a use with one more, by the chapter's words.
func plainPut(u api.Use, size int) (api.Use, bool) {
	put := api.Use{Bytes: total(u.Bytes, size), Count: total(u.Count, 1)}
	if !plainUse(u) || !plainSum(size) || !plainUse(put) {
		return api.Use{}, false
	}
	return put, true
}

// plainTake is a use with one fewer, by the chapter's words.
func plainTake(u api.Use, size int) (api.Use, bool) {
	if !plainUse(u) || !plainSum(size) || size > u.Bytes || u.Count == 0 {
		return api.Use{}, false
	}
	return api.Use{Bytes: u.Bytes - size, Count: u.Count - 1}, true
}

// plainFits tells whether one more fits, by the chapter's words.
func plainFits(l api.Limit, u api.Use, size int) bool {
	put, ok := plainPut(u, size)
	if !ok || !plainGood(l) {
		return false
	}
	return (l.Bytes == -1 || put.Bytes <= l.Bytes) && (l.Count == -1 || put.Count <= l.Count)
}

// plainOver tells whether a use is above a limit, by the chapter's words.
func plainOver(l api.Limit, u api.Use) bool {
	if !plainGood(l) {
		return false
	}
	return l.Bytes != -1 && u.Bytes > l.Bytes || l.Count != -1 && u.Count > l.Count
}

// summed fails, unless a list's sum is told as the exact one.
func summed(t *testing.T, l []int) {
	t.Helper()
	want := total(l...)
	ok := want != -1
	want = max(want, 0)
	kept := slices.Clone(l)
	if n, is := Sum(l); n != want || is != ok {
		t.Fatalf("Sum(%v): %d %v, not %d %v", l, n, is, want, ok)
	}
	if !slices.Equal(l, kept) {
		t.Fatalf("Sum(%v): the list was %v", l, kept)
	}
	if len(l) != 2 {
		return
	}
	if n, is := Add(l[0], l[1]); n != want || is != ok {
		t.Fatalf("Add(%v): %d %v, not %d %v", l, n, is, want, ok)
	}
}

// moved fails, unless a message is put to a use and taken from it as the chapter tells.
func moved(t *testing.T, u api.Use, size int) {
	t.Helper()
	want, ok := plainPut(u, size)
	put, is := Put(u, size)
	if put != want || is != ok {
		t.Fatalf("Put(%v, %d): %v %v, not %v %v", u, size, put, is, want, ok)
	}
	if is {
		if again, back := Take(put, size); again != u || !back {
			t.Fatalf("Take(%v, %d): %v %v, not %v", put, size, again, back, u)
		}
	}
	want, ok = plainTake(u, size)
	taken, is := Take(u, size)
	if taken != want || is != ok {
		t.Fatalf("Take(%v, %d): %v %v, not %v %v", u, size, taken, is, want, ok)
	}
	if is {
		if again, back := Put(taken, size); again != u || !back {
			t.Fatalf("Put(%v, %d): %v %v, not %v", taken, size, again, back, u)
		}
	}
}

// fitted fails, unless a message is told to fit, or not, as the chapter tells, and isn't over once it is put.
func fitted(t *testing.T, l api.Limit, u api.Use, size int) {
	t.Helper()
	want := plainFits(l, u, size)
	if Fits(l, u, size) != want {
		t.Fatalf("Fits(%v, %v, %d): %v", l, u, size, !want)
	}
	if !want {
		return
	}
	if put, ok := Put(u, size); !ok || Over(l, put) {
		t.Fatalf("Put(%v, %d): %v %v, over %v", u, size, put, ok, l)
	}
}

// bounded fails, unless a use is told to be over a limit, or not, and what is left, as the chapter tells.
func bounded(t *testing.T, l api.Limit, u api.Use) {
	t.Helper()
	if want := plainOver(l, u); Over(l, u) != want {
		t.Fatalf("Over(%v, %v): %v", l, u, !want)
	}
	left := Left(l, u)
	if left < -1 || left > most {
		t.Fatalf("Left(%v, %v): %d", l, u, left)
	}
	if left >= 0 && !plainFits(l, u, left) || plainFits(l, u, left+1) {
		t.Fatalf("Left(%v, %v): %d isn't the greatest that fits", l, u, left)
	}
}

// P12.1: sums that are known.
func TestSum(t *testing.T) {
	for i, c := range []struct {
		l    []int
		want int
		ok   bool
	}{
		{nil, 0, true},
		{[]int{}, 0, true},
		{[]int{0}, 0, true},
		{[]int{7}, 7, true},
		{[]int{most}, most, true},
		{[]int{most + 1}, 0, false},
		{[]int{-1}, 0, false},
		{[]int{1, 2}, 3, true},
		{[]int{most, 0}, most, true},
		{[]int{0, most}, most, true},
		{[]int{most, 1}, 0, false},
		{[]int{most - 1, 1}, most, true},
		{[]int{most / 2, most / 2}, most, true},
		{[]int{most / 2, most/2 + 1}, 0, false},
		{[]int{most, most}, 0, false},
		{[]int{5, -1}, 0, false},
		{[]int{-1, 5}, 0, false},
		{[]int{most + 1, -1}, 0, false},
		{[]int{-1, most + 1}, 0, false},
		{[]int{most, 1, -1}, 0, false},
		{[]int{1, -1, 1}, 0, false},
		{[]int{1 << 62, 1 << 62}, 0, false},
		{[]int{5, 1 << 62, 1 << 62}, 0, false},
		{[]int{1 << 62, 1 << 62, 1 << 62, 1 << 62}, 0, false},
		{[]int{math.MinInt, math.MinInt}, 0, false},
		{[]int{math.MaxInt, math.MinInt, 5}, 0, false},
		{[]int{math.MaxInt, 1}, 0, false},
	} {
		if n, ok := Sum(c.l); n != c.want || ok != c.ok {
			t.Errorf("%d: Sum: %d %v", i, n, ok)
		}
		summed(t, c.l)
	}
}

// P12.1: all pairs and triples at the edges, by exact numbers.
func TestSumEdges(t *testing.T) {
	for _, a := range edges {
		summed(t, []int{a})
		for _, b := range edges {
			summed(t, []int{a, b})
			for _, c := range edges {
				summed(t, []int{a, b, c})
			}
		}
	}
}

// P12.1: a long list, up to the greatest sum and beyond, also so far that exact numbers alone hold it; what lies behind a list's length isn't read.
func TestSumLong(t *testing.T) {
	l := slices.Repeat([]int{most / 1024}, 1024)
	summed(t, l)
	summed(t, append(slices.Clone(l), 1))
	summed(t, append(slices.Clone(l), 0))
	summed(t, slices.Repeat([]int{most}, 2048))
	summed(t, append(slices.Repeat([]int{most}, 2048), 5))
	summed(t, slices.Repeat([]int{1 << 62}, 5))
	more := []int{1, 2, 400, -7}
	if n, ok := Sum(more[:2]); n != 3 || !ok || more[2] != 400 {
		t.Errorf("Sum: %d %v", n, ok)
	}
}

// P12.1: limits, and what is none.
func TestGood(t *testing.T) {
	may := func(n int) bool {
		return n >= -1 && n <= most
	}
	for _, a := range edges {
		for _, b := range edges {
			if Good(api.Limit{Bytes: a, Count: b}) != (may(a) && may(b)) {
				t.Errorf("Good of %d and %d: %v", a, b, !(may(a) && may(b)))
			}
		}
	}
}

// P12.2: uses that are known.
func TestPut(t *testing.T) {
	none := api.Use{}
	for i, c := range []struct {
		u    api.Use
		size int
		want api.Use
		ok   bool
	}{
		{none, 0, api.Use{Count: 1}, true},
		{api.Use{Bytes: 60, Count: 1}, 5, api.Use{Bytes: 65, Count: 2}, true},
		{api.Use{Bytes: 60}, 0, api.Use{Bytes: 60, Count: 1}, true},
		{none, most, api.Use{Bytes: most, Count: 1}, true},
		{none, most + 1, none, false},
		{none, -1, none, false},
		{api.Use{Bytes: 5, Count: 5}, -5, none, false},
		{api.Use{Bytes: most}, 0, api.Use{Bytes: most, Count: 1}, true},
		{api.Use{Bytes: most}, 1, none, false},
		{api.Use{Count: most - 1}, 1, api.Use{Bytes: 1, Count: most}, true},
		{api.Use{Count: most}, 1, none, false},
		{api.Use{Bytes: -1}, 1, none, false},
		{api.Use{Count: -1}, 1, none, false},
		{api.Use{Bytes: most + 1}, 0, none, false},
		{api.Use{Bytes: math.MaxInt}, 1, none, false},
		{api.Use{Count: math.MaxInt}, 1, none, false},
		{none, math.MaxInt, none, false},
	} {
		if u, ok := Put(c.u, c.size); u != c.want || ok != c.ok {
			t.Errorf("%d: Put: %v %v", i, u, ok)
		}
		moved(t, c.u, c.size)
	}
}

// P12.2: uses that are known, with one fewer.
func TestTake(t *testing.T) {
	none := api.Use{}
	for i, c := range []struct {
		u    api.Use
		size int
		want api.Use
		ok   bool
	}{
		{api.Use{Bytes: 65, Count: 2}, 5, api.Use{Bytes: 60, Count: 1}, true},
		{api.Use{Bytes: 5, Count: 1}, 5, none, true},
		{api.Use{Bytes: 5, Count: 1}, 0, api.Use{Bytes: 5}, true},
		{api.Use{Bytes: 5, Count: 1}, 6, none, false},
		{api.Use{Bytes: 5}, 1, none, false},
		{none, 0, none, false},
		{api.Use{Bytes: 5, Count: 1}, -1, none, false},
		{api.Use{Bytes: most, Count: most}, most, api.Use{Count: most - 1}, true},
		{api.Use{Bytes: most + 1, Count: 1}, 1, none, false},
		{api.Use{Bytes: 1, Count: most + 1}, 1, none, false},
		{api.Use{Bytes: -1, Count: 1}, 0, none, false},
		{api.Use{Bytes: 1, Count: 1}, math.MinInt, none, false},
		{api.Use{Bytes: math.MinInt, Count: 1}, 1, none, false},
		{api.Use{Bytes: 1, Count: math.MinInt}, 1, none, false},
		{api.Use{Bytes: most, Count: 1}, most + 1, none, false},
		{api.Use{Bytes: most + 5, Count: 1}, most + 1, none, false},
	} {
		if u, ok := Take(c.u, c.size); u != c.want || ok != c.ok {
			t.Errorf("%d: Take: %v %v", i, u, ok)
		}
		moved(t, c.u, c.size)
	}
}

// P12.2, P12.4: all uses and sizes at the edges; what is put and taken is as it was.
func TestMoveEdges(t *testing.T) {
	for _, bytes := range edges {
		for _, count := range edges {
			for _, size := range edges {
				moved(t, api.Use{Bytes: bytes, Count: count}, size)
			}
		}
	}
}

// P12.3: the chapter's example, and others that are known.
func TestFits(t *testing.T) {
	for i, c := range []struct {
		l    api.Limit
		u    api.Use
		size int
		ok   bool
		over bool
		left int
	}{
		{api.Limit{Bytes: 100, Count: 2}, api.Use{Bytes: 60, Count: 1}, 40, true, false, 40},
		{api.Limit{Bytes: 100, Count: 2}, api.Use{Bytes: 60, Count: 1}, 41, false, false, 40},
		{api.Limit{Bytes: 100, Count: 2}, api.Use{Bytes: 60, Count: 1}, 0, true, false, 40},
		{api.Limit{Bytes: 100, Count: 2}, api.Use{Bytes: 60, Count: 1}, -1, false, false, 40},
		{api.Limit{Bytes: 100, Count: 2}, api.Use{Bytes: 60, Count: 2}, 0, false, false, -1},
		{api.Limit{Bytes: 100, Count: 2}, api.Use{Bytes: 60, Count: 3}, 0, false, true, -1},
		{api.Limit{Bytes: 100, Count: 2}, api.Use{Bytes: 100, Count: 1}, 0, true, false, 0},
		{api.Limit{Bytes: 100, Count: 2}, api.Use{Bytes: 100, Count: 1}, 1, false, false, 0},
		{api.Limit{Bytes: 100, Count: 2}, api.Use{Bytes: 101, Count: 1}, 0, false, true, -1},
		{api.Limit{Bytes: -1, Count: -1}, api.Use{Bytes: 60, Count: 1}, 1000, true, false, most - 60},
		{api.Limit{Bytes: -1, Count: -1}, api.Use{Bytes: 60, Count: 1}, most - 60, true, false, most - 60},
		{api.Limit{Bytes: -1, Count: -1}, api.Use{Bytes: 60, Count: 1}, most - 59, false, false, most - 60},
		{api.Limit{Bytes: -1, Count: -1}, api.Use{Bytes: most, Count: most - 1}, 0, true, false, 0},
		{api.Limit{Bytes: -1, Count: -1}, api.Use{Bytes: 1, Count: most}, 0, false, false, -1},
		{api.Limit{Bytes: most, Count: most}, api.Use{Bytes: most, Count: most}, 0, false, false, -1},
		{api.Limit{Bytes: most, Count: most}, api.Use{}, most, true, false, most},
		{api.Limit{Bytes: -1, Count: 1}, api.Use{Bytes: 5}, 7, true, false, most - 5},
		{api.Limit{Bytes: -1, Count: 0}, api.Use{}, 0, false, false, -1},
		{api.Limit{Bytes: 0, Count: -1}, api.Use{Count: 9}, 0, true, false, 0},
		{api.Limit{Bytes: 0, Count: 0}, api.Use{}, 0, false, false, -1},
		{api.Limit{Bytes: 59, Count: -1}, api.Use{Bytes: 60, Count: 1}, 0, false, true, -1},
		{api.Limit{Bytes: -2, Count: 5}, api.Use{Bytes: 60, Count: 9}, 0, false, false, -1},
		{api.Limit{Bytes: 5, Count: -2}, api.Use{Bytes: 60, Count: 1}, 0, false, false, -1},
		{api.Limit{Bytes: most + 1, Count: 5}, api.Use{Bytes: 1, Count: 9}, 0, false, false, -1},
		{api.Limit{Bytes: 100, Count: 2}, api.Use{Bytes: -1, Count: 1}, 1, false, false, -1},
		{api.Limit{Bytes: 100, Count: 2}, api.Use{Bytes: 1, Count: -1}, 1, false, false, -1},
		{api.Limit{Bytes: 100, Count: 2}, api.Use{Bytes: 1, Count: 1}, math.MaxInt, false, false, 99},
	} {
		if ok, over, left := Fits(c.l, c.u, c.size), Over(c.l, c.u), Left(c.l, c.u); ok != c.ok || over != c.over || left != c.left {
			t.Errorf("%d: %v %v %d", i, ok, over, left)
		}
		fitted(t, c.l, c.u, c.size)
		bounded(t, c.l, c.u)
	}
}

// P12.3: what isn't a use is above a limit too where its numbers are; none is above -1.
func TestOverNoUse(t *testing.T) {
	for i, c := range []struct {
		l    api.Limit
		u    api.Use
		over bool
	}{
		{api.Limit{Bytes: 100, Count: 2}, api.Use{Bytes: math.MaxInt, Count: 1}, true},
		{api.Limit{Bytes: 100, Count: 2}, api.Use{Bytes: 1, Count: math.MaxInt}, true},
		{api.Limit{Bytes: most, Count: most}, api.Use{Bytes: most + 1, Count: 1}, true},
		{api.Limit{Bytes: 100, Count: 2}, api.Use{Bytes: -1, Count: 3}, true},
		{api.Limit{Bytes: 100, Count: 2}, api.Use{Bytes: math.MinInt, Count: math.MinInt}, false},
		{api.Limit{Bytes: -1, Count: -1}, api.Use{Bytes: math.MaxInt, Count: math.MaxInt}, false},
		{api.Limit{Bytes: -1, Count: 0}, api.Use{Bytes: math.MaxInt, Count: 0}, false},
		{api.Limit{Bytes: 0, Count: -1}, api.Use{Bytes: 0, Count: math.MaxInt}, false},
	} {
		if Over(c.l, c.u) != c.over {
			t.Errorf("%d: %v", i, !c.over)
		}
		bounded(t, c.l, c.u)
	}
}

// P12.3, P12.4: all limits, uses and sizes at the edges.
func TestFitsEdges(t *testing.T) {
	for _, a := range few {
		for _, b := range few {
			for _, c := range few {
				for _, d := range few {
					l, u := api.Limit{Bytes: a, Count: b}, api.Use{Bytes: c, Count: d}
					bounded(t, l, u)
					for _, size := range edges {
						fitted(t, l, u, size)
					}
				}
			}
		}
	}
}

// P12.3, P12.4: all limits, uses and sizes of small numbers; Left is the last size up to which all fit.
func TestFitsSmall(t *testing.T) {
	for n := range 6 * 6 * 7 * 7 {
		l := api.Limit{Bytes: n%6 - 1, Count: n/6%6 - 1}
		u := api.Use{Bytes: n/36%7 - 1, Count: n/252 - 1}
		bounded(t, l, u)
		want := -1
		for size := -2; size < 9; size++ {
			fitted(t, l, u, size)
			if Fits(l, u, size) {
				want = size
			}
		}
		if left := Left(l, u); left != want && (l.Bytes != -1 || want != 8) {
			t.Errorf("Left(%v, %v): %d, not %d", l, u, left, want)
		}
	}
}

// drawn is a number near one of the edges that a use or a limit may have, or any one.
func drawn(r *rand.Rand) int {
	switch r.Intn(8) {
	case 0:
		return -1
	case 1:
		return most - r.Intn(20)
	case 2:
		return int(r.Uint64())
	case 3:
		return r.Intn(most)
	}
	return r.Intn(20)
}

// P12.2 to P12.4: drawn limits, uses and sizes.
func TestDrawn(t *testing.T) {
	r := rand.New(rand.NewSource(12))
	for range 200000 {
		l, u := api.Limit{Bytes: drawn(r), Count: drawn(r)}, api.Use{Bytes: drawn(r), Count: drawn(r)}
		size := drawn(r)
		moved(t, u, size)
		bounded(t, l, u)
		fitted(t, l, u, size)
	}
}

// more is a part of a limit that allows no less.
func more(r *rand.Rand, n int) int {
	if n == -1 || r.Intn(4) == 0 {
		return -1
	}
	return n + r.Intn(min(most-n, 30)+1)
}

// P12.4: what fits still does if it is smaller, if more is allowed, or if less is used.
func TestStillFits(t *testing.T) {
	r := rand.New(rand.NewSource(124))
	seen := 0
	for range 200000 {
		l, u := api.Limit{Bytes: drawn(r), Count: drawn(r)}, api.Use{Bytes: drawn(r), Count: drawn(r)}
		size := drawn(r)
		if !Fits(l, u, size) {
			continue
		}
		seen++
		smaller := r.Intn(size + 1)
		wider := api.Limit{Bytes: more(r, l.Bytes), Count: more(r, l.Count)}
		less := api.Use{Bytes: r.Intn(u.Bytes + 1), Count: r.Intn(u.Count + 1)}
		if !Fits(l, u, smaller) || !Fits(wider, u, size) || !Fits(l, less, size) || !Fits(wider, less, smaller) {
			t.Fatalf("Fits(%v, %v, %d), but not %d, %v, %v", l, u, size, smaller, wider, less)
		}
	}
	if seen < 1000 {
		t.Errorf("%d fit", seen)
	}
}
