package vdisk

import (
	"cmp"
	"maps"
	"slices"

	"pigeonhole/api"
)

// alarm is how many calls that change come ahead of the one with which it rings; below 0 it doesn't.
type alarm int

// never is an alarm that doesn't ring.
const never alarm = -1

// rings tells whether the alarm rings with this call.
func (a *alarm) rings() bool {
	now := *a == 0
	if *a >= 0 {
		*a--
	}
	return now
}

// Fail lets a call that is to come fail.
func (d *Disk) Fail(after int, e api.Errno) {
	d.fail, d.failure = alarm(after), e
	if e == api.OK || e == api.ErrDown {
		d.fail = never
	}
}

// Crash lets the power go with a call that is to come.
func (d *Disk) Crash(after int) {
	d.crash = alarm(after)
}

// Boot lets the power come again.
func (d *Disk) Boot(turns int, keep []int) api.Errno {
	if !d.down {
		return api.ErrBusy
	}
	d.keepWrites(keep)
	// What first turns lead to was seen once, so that there are never too many names.
	d.keepTurns(within(turns, len(d.turns)))
	d.crash, d.fail = never, never
	d.down = false
	return api.OK
}

// keepWrites makes of the known files' writes the first bytes sure, so many of each as keep tells.
func (d *Disk) keepWrites(keep []int) {
	for _, f := range d.known {
		told := min(len(f.writes), len(keep))
		f.restore(keep[:told])
		keep = keep[told:]
	}
}

// keepTurns makes the names sure as the first turns leave them, and these all that there are.
func (d *Disk) keepTurns(turns int) {
	for _, t := range d.turns[:turns] {
		t.do(d.sure)
	}
	d.turns = nil
	d.names = maps.Clone(d.sure)
	d.known = slices.SortedFunc(maps.Values(d.names), func(f, g *file) int {
		return cmp.Compare(f.made, g.made)
	})
}

// Down tells whether the power is gone.
func (d *Disk) Down() bool {
	return d.down
}

// Calls is how many calls that change were made.
func (d *Disk) Calls() int {
	return d.calls
}
