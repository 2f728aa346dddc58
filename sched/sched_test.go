package sched

import (
	"math"
	"math/big"
	"math/rand"
	"slices"
	"testing"

	"pigeonhole/api"
)

// edges are numbers at the edges of what is a delay, an expiry, a number of tries, a time, and of what an int has.
var edges = []int{math.MinInt, math.MinInt + 1, -1 << 62, -1 << 52, -1 << 40, -1 << 31, -2, -1, 0, 1, 2, 15, 16, 17, 65534, 65535, 65536, 1<<31 - 1, 1 << 31, 1<<31 + 1, 1<<40 - 1, 1 << 40, 1<<40 + 1, last - 1<<40, last - 1<<31 - 1, last - 1<<31, last - 1<<31 + 1, last - 1, last, last + 1, 1 << 62, math.MaxInt - 1<<40, math.MaxInt - 1<<31, math.MaxInt - 1, math.MaxInt}

// last is the last time.
const last = 1 << 52

// rightTables are tables at the edges of what is right.
func rightTables() []api.Retry {
	rising := make([]int, 16)
	for i := range rising {
		rising[i] = 1 << i
	}
	return []api.Retry{
		{Delays: []int{10, 20}, Expiry: 45},
		{Delays: []int{1}, Expiry: 1},
		{Delays: []int{1}, Expiry: 1 << 40},
		{Delays: []int{1 << 31}, Expiry: 1},
		{Delays: []int{1 << 31}, Expiry: 1 << 40},
		{Delays: []int{7, 3, 5}, Expiry: 1000},
		{Delays: rising, Expiry: 1 << 20},
		{Delays: slices.Repeat([]int{1 << 31}, 16), Expiry: 1 << 40},
		{Delays: slices.Repeat([]int{1}, 16), Expiry: 1},
	}
}

// wrongTables are tables that aren't right, each by one thing.
func wrongTables() []api.Retry {
	l := []api.Retry{
		{},
		{Expiry: 5},
		{Delays: []int{}, Expiry: 5},
		{Delays: []int{10}},
		{Delays: make([]int, 1), Expiry: 5},
		{Delays: slices.Repeat([]int{1}, 17), Expiry: 5},
		{Delays: slices.Repeat([]int{1}, 1000), Expiry: 5},
	}
	for _, n := range edges {
		if n < 1 || n > 1<<31 {
			l = append(l, api.Retry{Delays: []int{n}, Expiry: 5})
			for i := range 16 {
				d := slices.Repeat([]int{3}, 16)
				d[i] = n
				l = append(l, api.Retry{Delays: d, Expiry: 5})
			}
		}
		if n < 1 || n > 1<<40 {
			l = append(l, api.Retry{Delays: []int{10}, Expiry: n})
		}
	}
	return l
}

// copied is a table that shares nothing with another.
func copied(t api.Retry) api.Retry {
	return api.Retry{Delays: slices.Clone(t.Delays), Expiry: t.Expiry}
}

// drawnTable is a right table.
func drawnTable(r *rand.Rand) api.Retry {
	most := []int{3, 50, 1 << 20, 1 << 31}[r.Intn(4)]
	t := api.Retry{Delays: make([]int, 1+r.Intn(16))}
	for i := range t.Delays {
		t.Delays[i] = 1 + r.Intn(most)
	}
	t.Expiry = 1 + r.Intn(min(most*40, 1<<40))
	return t
}

// drawn is a number near one of the edges.
func drawn(r *rand.Rand) int {
	return edges[r.Intn(len(edges))] + r.Intn(7) - 3
}

// plainDelay is the delay of a right table, by the chapter's words.
func plainDelay(t api.Retry, n int) int {
	if n < 1 {
		return 0
	}
	if n <= len(t.Delays) {
		return t.Delays[n-1]
	}
	return t.Delays[len(t.Delays)-1]
}

// plainDue is now and a delay by exact numbers, but no more than the last time.
func plainDue(now, delay int) int {
	sum := new(big.Int).Add(big.NewInt(int64(now)), big.NewInt(int64(delay)))
	if sum.Cmp(big.NewInt(last)) > 0 {
		return last
	}
	return int(sum.Int64())
}

// plainTries counts one more, by the chapter's words.
func plainTries(n int) int {
	if n < 65535 {
		return n + 1
	}
	return n
}

// P22.1: which tables are right.
func TestGood(t *testing.T) {
	for i, x := range rightTables() {
		if !Good(x) {
			t.Errorf("right table %d: %v", i, x)
		}
	}
	for i, x := range wrongTables() {
		if Good(x) {
			t.Errorf("wrong table %d: %v", i, x)
		}
	}
}

// P22.1: how many delays a right table has, and what lies behind them in their memory.
func TestGoodLengths(t *testing.T) {
	whole := slices.Repeat([]int{9}, 40)
	for n := range whole {
		if Good(api.Retry{Delays: whole[:n], Expiry: 1}) != (n >= 1 && n <= 16) {
			t.Errorf("%d delays", n)
		}
	}
	behind := []int{10, 20, 0, -1}
	if x := (api.Retry{Delays: behind[:2], Expiry: 45}); !Good(x) || Delay(x, 3) != 20 || Tries(x) != 3 {
		t.Errorf("%v", x)
	}
}

// P22.1: the chapter's example.
func TestDelayExample(t *testing.T) {
	x := api.Retry{Delays: []int{10, 20}, Expiry: 45}
	for n, want := range []int{0, 10, 20, 20, 20, 20} {
		if d := Delay(x, n); d != want {
			t.Errorf("%d: %d, not %d", n, d, want)
		}
	}
}

// P22.1: the delays of all tables, behind each number of failures.
func TestDelay(t *testing.T) {
	for _, x := range rightTables() {
		for n := -3; n < 40; n++ {
			if d, want := Delay(x, n), plainDelay(x, n); d != want {
				t.Errorf("Delay(%v, %d): %d, not %d", x, n, d, want)
			}
		}
		for _, n := range edges {
			if d, want := Delay(x, n), plainDelay(x, n); d != want {
				t.Errorf("Delay(%v, %d): %d, not %d", x, n, d, want)
			}
		}
	}
	for _, x := range wrongTables() {
		for _, n := range edges {
			if d := Delay(x, n); d != 0 {
				t.Errorf("Delay(%v, %d): %d", x, n, d)
			}
		}
	}
}

// P22.1: what waits, and is due now or was before, is due; nothing else is.
func TestDue(t *testing.T) {
	states := slices.Concat([]int{api.Waits, api.Delivered, api.Bounced, api.Discarded, 4}, edges)
	for _, state := range states {
		for _, due := range edges {
			for _, now := range edges {
				s := api.State{State: state, Due: due, Tries: 7, Code: 452}
				if Due(s, now) != (state == 0 && due <= now) {
					t.Errorf("Due(%v, %d)", s, now)
				}
			}
		}
	}
	if !Due(api.State{Due: 5}, 5) || !Due(api.State{Due: 5}, 6) || Due(api.State{Due: 5}, 4) || Due(api.State{State: 1, Due: 5}, 6) {
		t.Error("Due")
	}
}

// P22.1: expired is what came as long ago as the expiry, or longer; nothing is where one of both is no time.
func TestExpired(t *testing.T) {
	for _, x := range rightTables() {
		for _, arrival := range edges {
			nows := slices.Clone(edges)
			if arrival >= 0 && arrival <= last {
				nows = append(nows, arrival-1, arrival, arrival+1, arrival+x.Expiry-1, arrival+x.Expiry, arrival+x.Expiry+1)
			}
			for _, now := range nows {
				want := arrival >= 0 && arrival <= last && now >= 0 && now <= last && now-arrival >= x.Expiry
				if Expired(x, arrival, now) != want {
					t.Errorf("Expired(%v, %d, %d): %v", x, arrival, now, !want)
				}
			}
		}
	}
}

// P22.1: the edges of expiry, of times, and of tables that aren't right.
func TestExpiredEdges(t *testing.T) {
	x := api.Retry{Delays: []int{10, 20}, Expiry: 45}
	for i, c := range []struct {
		arrival, now int
		want         bool
	}{
		{0, 44, false}, {0, 45, true}, {100, 144, false}, {100, 145, true}, {100, 146, true}, {100, 100, false}, {100, 50, false},
		{-1, 100, false}, {-100, -10, false}, {0, last, true}, {0, last + 1, false}, {last - 45, last, true}, {last - 44, last, false},
		{last, last, false}, {last, last + 45, false}, {math.MaxInt, math.MinInt, false}, {math.MinInt, math.MaxInt, false}, {math.MaxInt - 44, 5, false},
	} {
		if Expired(x, c.arrival, c.now) != c.want {
			t.Errorf("%d: %v", i, !c.want)
		}
	}
	for _, w := range wrongTables() {
		for _, now := range edges {
			if Expired(w, 0, now) || Expired(w, now, now) || Expired(w, now, last) {
				t.Errorf("%v at %d", w, now)
			}
		}
	}
}

// failed fails, unless a state behind a failure is as the chapter's words have it.
func failed(t *testing.T, x api.Retry, right bool, s api.State, now, code int) {
	t.Helper()
	want := api.State{State: s.State, Tries: plainTries(s.Tries), Code: code}
	delay := 0
	if right {
		delay = plainDelay(x, want.Tries)
	}
	want.Due = plainDue(now, delay)
	if got := Fail(x, s, now, code); got != want {
		t.Errorf("Fail(%v, %v, %d, %d): %v, not %v", x, s, now, code, got, want)
	}
}

// P22.2: a state that fails again and again: the delays of the chapter's example.
func TestFailRow(t *testing.T) {
	x := api.Retry{Delays: []int{10, 20}, Expiry: 45}
	s := api.State{Due: 5}
	for i, want := range []api.State{{Tries: 1, Due: 15, Code: 451}, {Tries: 2, Due: 35, Code: 452}, {Tries: 3, Due: 55, Code: 453}, {Tries: 4, Due: 75, Code: 454}} {
		if s = Fail(x, s, s.Due, 451+i); s != want {
			t.Errorf("%d: %v, not %v", i, s, want)
		}
	}
	if s = Fail(x, s, 1000, 250); s != (api.State{Tries: 5, Due: 1020, Code: 250}) {
		t.Errorf("%v", s)
	}
}

// P22.2: each number of tries, those at their bound and beyond it, and below 0.
func TestFailTries(t *testing.T) {
	x := api.Retry{Delays: []int{10, 20, 30}, Expiry: 45}
	for _, c := range []struct{ tries, want, due int }{
		{0, 1, 110}, {1, 2, 120}, {2, 3, 130}, {3, 4, 130}, {65533, 65534, 130}, {65534, 65535, 130}, {65535, 65535, 130}, {65536, 65536, 130}, {math.MaxInt, math.MaxInt, 130},
		{-1, 0, 100}, {-2, -1, 100}, {math.MinInt, math.MinInt + 1, 100},
	} {
		s := api.State{State: api.Waits, Tries: c.tries, Due: 7, Code: 9}
		if got := Fail(x, s, 100, 452); got != (api.State{Tries: c.want, Due: c.due, Code: 452}) {
			t.Errorf("Fail of %d tries: %v", c.tries, got)
		}
		if got := End(s, api.Bounced, 550); got != (api.State{State: api.Bounced, Tries: c.want, Due: 7, Code: 550}) {
			t.Errorf("End of %d tries: %v", c.tries, got)
		}
	}
}

// P22.2: all tables, states and times at the edges; no Due comes to be above the last time.
func TestFailEdges(t *testing.T) {
	for _, tries := range edges {
		for _, now := range edges {
			for i, x := range rightTables() {
				failed(t, x, true, api.State{State: i % 5, Tries: tries, Due: 3, Code: 4}, now, 452)
			}
			for i, x := range wrongTables()[:20] {
				failed(t, x, false, api.State{State: i % 5, Tries: tries, Due: 3, Code: 4}, now, 452)
			}
		}
	}
	for _, n := range edges {
		failed(t, rightTables()[0], true, api.State{State: n, Tries: 1, Due: n, Code: n}, 5, 452)
		failed(t, rightTables()[0], true, api.State{State: n, Tries: 1, Due: n, Code: n}, 5, n)
	}
}

// P22.2: drawn tables, states and times.
func TestFailDrawn(t *testing.T) {
	r := rand.New(rand.NewSource(222))
	for range 100000 {
		s := api.State{State: drawn(r), Tries: drawn(r), Due: drawn(r), Code: drawn(r)}
		if r.Intn(2) == 0 {
			s.Tries = r.Intn(20)
		}
		failed(t, drawnTable(r), true, s, drawn(r), drawn(r))
	}
}

// P22.2: a state that nothing follows keeps its Due.
func TestEnd(t *testing.T) {
	for _, n := range edges {
		for _, m := range edges {
			s := api.State{State: m, Tries: n, Due: m, Code: n}
			if got := End(s, n, m); got != (api.State{State: n, Tries: plainTries(n), Due: m, Code: m}) {
				t.Errorf("End(%v, %d, %d): %v", s, n, m, got)
			}
		}
	}
	if s := End(api.State{Tries: 2, Due: 35, Code: 451}, api.Delivered, 250); s != (api.State{State: api.Delivered, Tries: 3, Due: 35, Code: 250}) || Due(s, last) {
		t.Errorf("%v", s)
	}
}

// earliest fails, unless that is what Earliest tells.
func earliest(t *testing.T, l []api.Job, want int, ok bool) {
	t.Helper()
	if n, found := Earliest(l); n != want || found != ok {
		t.Errorf("Earliest(%v): %d %v, not %d %v", l, n, found, want, ok)
	}
}

// P22.3: the least Due of what waits, wherever it stands; nothing, where nothing waits.
func TestEarliest(t *testing.T) {
	done := []api.State{{State: api.Delivered, Due: 1}, {State: api.Bounced, Due: 2}, {State: api.Discarded, Due: 3}, {State: 4, Due: 1}, {State: -1, Due: 1}}
	earliest(t, nil, 0, false)
	earliest(t, []api.Job{}, 0, false)
	earliest(t, []api.Job{{}, {States: []api.State{}}}, 0, false)
	earliest(t, []api.Job{{States: done}, {}}, 0, false)
	for at := range len(done) + 1 {
		states := slices.Insert(slices.Clone(done), at, api.State{Due: 9, Tries: 3, Code: 452})
		earliest(t, []api.Job{{States: states}}, 9, true)
		earliest(t, []api.Job{{States: states}, {States: done}, {}}, 9, true)
		earliest(t, []api.Job{{}, {States: done}, {States: states}}, 9, true)
		earliest(t, []api.Job{{States: []api.State{{Due: 12}}}, {States: states}, {States: []api.State{{Due: 10}}}}, 9, true)
		earliest(t, []api.Job{{States: []api.State{{Due: 9}, {Due: 8}}}, {States: states}}, 8, true)
		earliest(t, []api.Job{{States: states}, {States: []api.State{{Due: 9}, {Due: 8}}}}, 8, true)
	}
	for _, n := range edges {
		earliest(t, []api.Job{{Id: 5, Arrival: 1, States: []api.State{{Due: n}}}}, n, true)
		earliest(t, []api.Job{{States: []api.State{{Due: n}, {Due: math.MaxInt}}}, {States: done}}, n, true)
		earliest(t, []api.Job{{States: []api.State{{Due: math.MinInt}}}, {States: []api.State{{Due: n}}}}, math.MinInt, true)
	}
}

// P22.3: drawn jobs.
func TestEarliestDrawn(t *testing.T) {
	r := rand.New(rand.NewSource(223))
	for range 20000 {
		l := make([]api.Job, r.Intn(5))
		var dues []int
		for i := range l {
			l[i].States = make([]api.State, r.Intn(5))
			for k := range l[i].States {
				l[i].States[k] = api.State{State: r.Intn(4), Due: drawn(r), Tries: r.Intn(3), Code: r.Intn(3)}
				if l[i].States[k].State == api.Waits {
					dues = append(dues, l[i].States[k].Due)
				}
			}
		}
		if len(dues) == 0 {
			earliest(t, l, 0, false)
			continue
		}
		earliest(t, l, slices.Min(dues), true)
	}
}

// P22.3: numbers of tries that are known.
func TestTriesKnown(t *testing.T) {
	many := slices.Repeat([]int{1 << 31}, 16)
	for i, c := range []struct {
		delays       []int
		expiry, want int
	}{
		{[]int{10, 20}, 45, 3}, {[]int{10, 20}, 50, 3}, {[]int{10, 20}, 51, 4}, {[]int{10, 20}, 31, 3}, {[]int{10, 20}, 30, 2}, {[]int{10, 20}, 11, 2}, {[]int{10, 20}, 10, 1}, {[]int{10, 20}, 1, 1},
		{[]int{1}, 1, 1}, {[]int{1}, 2, 2}, {[]int{1}, 1 << 40, 1 << 40}, {[]int{2}, 1 << 40, 1 << 39}, {[]int{2}, 1<<40 - 1, 1 << 39}, {[]int{3}, 1 << 40, 366503875926},
		{[]int{1 << 31}, 1 << 40, 512}, {[]int{1 << 31}, 1, 1}, {[]int{1 << 31, 1}, 1 << 40, 1<<40 - 1<<31 + 1}, {many, 1 << 40, 512}, {many, 1<<31 + 1, 2}, {many, 1 << 35, 16}, {many, 1<<35 + 1, 17},
		{[]int{5, 4, 3}, 12, 3}, {[]int{5, 4, 3}, 13, 4}, {[]int{5, 4, 3}, 9, 2}, {[]int{100, 1}, 99, 1}, {[]int{100, 1}, 101, 2}, {[]int{100, 1}, 105, 6},
	} {
		if n := Tries(api.Retry{Delays: c.delays, Expiry: c.expiry}); n != c.want {
			t.Errorf("%d: %d, not %d", i, n, c.want)
		}
	}
	for _, x := range wrongTables() {
		if n := Tries(x); n != 0 {
			t.Errorf("Tries(%v): %d", x, n)
		}
	}
}

// together is how long the first delays are together, by exact numbers.
func together(t api.Retry, n int) *big.Int {
	sum := new(big.Int)
	for i := 1; i <= min(n, len(t.Delays)); i++ {
		sum.Add(sum, big.NewInt(int64(plainDelay(t, i))))
	}
	if more := n - len(t.Delays); more > 0 {
		d := big.NewInt(int64(t.Delays[len(t.Delays)-1]))
		sum.Add(sum, d.Mul(d, big.NewInt(int64(more))))
	}
	return sum
}

// P22.3: so many delays together aren't less than the expiry, one fewer are.
func TestTriesLeast(t *testing.T) {
	r := rand.New(rand.NewSource(224))
	l := rightTables()
	for range 100000 {
		l = append(l, drawnTable(r))
	}
	for _, x := range l {
		n, expiry := Tries(x), big.NewInt(int64(x.Expiry))
		if n < 1 || together(x, n).Cmp(expiry) < 0 || together(x, n-1).Cmp(expiry) >= 0 {
			t.Errorf("Tries(%v): %d", x, n)
		}
	}
}

// lived fails, unless what is tried just when it is due, and fails each time, is expired with the try behind Tries failures, and not before.
func lived(t *testing.T, x api.Retry, arrival int) {
	t.Helper()
	s := api.State{Due: arrival}
	for failures := range Tries(x) {
		if now := s.Due; !Due(s, now) || Due(s, now-1) || Expired(x, arrival, now) {
			t.Fatalf("%v from %d on: %v behind %d failures", x, arrival, s, failures)
		}
		s = Fail(x, s, s.Due, 452)
	}
	if s.State != api.Waits || !Due(s, s.Due) || !Expired(x, arrival, s.Due) {
		t.Fatalf("%v from %d on: %v behind all", x, arrival, s)
	}
}

// P22.4: tables of all kinds, from the first time on, and up to the last one; more tries than are counted, too.
func TestLived(t *testing.T) {
	r := rand.New(rand.NewSource(225))
	lived(t, api.Retry{Delays: []int{10, 20}, Expiry: 45}, 100)
	lived(t, api.Retry{Delays: []int{1}, Expiry: 200000}, 7)
	lived(t, api.Retry{Delays: []int{9, 1}, Expiry: 65536 + 8}, 7)
	lived(t, api.Retry{Delays: []int{1 << 31}, Expiry: 1 << 40}, last-1<<40)
	for n := range 3000 {
		x := drawnTable(r)
		for Tries(x) > 1000 {
			x = drawnTable(r)
		}
		lived(t, x, []int{0, 951782400, 1 << 37, last - x.Expiry - 1<<31, r.Intn(1 << 50)}[n%5])
	}
}

// P22.4: what is tried later than it is due is expired behind so many failures, too.
func TestLivedLate(t *testing.T) {
	r := rand.New(rand.NewSource(226))
	for range 3000 {
		x, arrival := drawnTable(r), r.Intn(1<<40)
		for Tries(x) > 1000 {
			x = drawnTable(r)
		}
		s := api.State{Due: arrival}
		for range Tries(x) {
			s = Fail(x, s, s.Due+r.Intn(3), 452)
		}
		if !Expired(x, arrival, s.Due) {
			t.Fatalf("%v from %d on: %v", x, arrival, s)
		}
	}
}

// R4, R8: what is handed in stays, and isn't kept; the same questions have the same answers.
func TestMemory(t *testing.T) {
	whole := []int{10, 20, 77, 88}
	x := api.Retry{Delays: whole[:2], Expiry: 45}
	kept := copied(x)
	jobs := []api.Job{{States: []api.State{{State: 1, Due: 1}, {Due: 9}}}, {States: []api.State{{Due: 7}}}}
	for range 3 {
		s := Fail(x, api.State{Due: 5}, 5, 452)
		n, ok := Earliest(jobs)
		if !Good(x) || Delay(x, 9) != 20 || Tries(x) != 3 || !Expired(x, 0, 45) || s != (api.State{Tries: 1, Due: 15, Code: 452}) || n != 7 || !ok {
			t.Fatalf("%v %v %d", x, s, n)
		}
	}
	if !slices.Equal(whole, []int{10, 20, 77, 88}) || !slices.Equal(x.Delays, kept.Delays) || jobs[0].States[1] != (api.State{Due: 9}) || jobs[0].States[0] != (api.State{State: 1, Due: 1}) || jobs[1].States[0] != (api.State{Due: 7}) {
		t.Errorf("changed: %v %v", whole, jobs)
	}
	whole[0], whole[1] = 1, 2
	if Delay(x, 1) != 1 || Delay(x, 2) != 2 || Tries(x) != 23 || Delay(kept, 1) != 10 {
		t.Errorf("kept: %d %d %d", Delay(x, 1), Delay(x, 2), Tries(x))
	}
}
