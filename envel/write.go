package envel

import (
	"slices"

	"pigeonhole/api"
	"pigeonhole/frame"
	"pigeonhole/octet"
)

// The kinds of a file's frames.
const (
	kindJob   = 16
	kindBody  = 17
	kindState = 18
)

// In how many bytes the numbers of a file stand.
const (
	idSize    = 8
	timeSize  = 8
	countSize = 1
	userSize  = 2
	placeSize = 1
	stateSize = 1
	triesSize = 2
	codeSize  = 2
)

// Bytes is a job's file.
func Bytes(j api.Job) ([]byte, api.Errno) {
	if !Good(j) {
		return nil, api.ErrForm
	}
	b := slices.Concat(framed(kindJob, told(j)), framed(kindBody, j.Body))
	fresh := Fresh(j.Arrival)
	for i, s := range j.States {
		if s != fresh {
			b = append(b, stateFrame(i, s)...)
		}
	}
	return b, api.OK
}

// Step is the frame of a target's state.
func Step(target int, s api.State) ([]byte, api.Errno) {
	switch {
	case !between(target, 0, api.MaxRcpts-1):
		return nil, api.ErrArg
	case !GoodState(s):
		return nil, api.ErrForm
	}
	return stateFrame(target, s), api.OK
}

// framed is a frame. It can't be refused: the greatest payload of a right job is far from MaxPayload.
func framed(kind int, payload []byte) []byte {
	b, _ := frame.Wrap(kind, payload)
	return b
}

// told is what is told of a right job, but for its body and states.
func told(j api.Job) []byte {
	s := octet.NewSink()
	s.U(uint64(j.Id), idSize)
	s.U(uint64(j.Arrival), timeSize)
	putMailbox(s, j.From)
	s.U(uint64(len(j.To)), countSize)
	for _, t := range j.To {
		s.U(uint64(t.User), userSize)
		putMailbox(s, t.Addr)
	}
	return s.Bytes()
}

// putMailbox puts a mailbox down.
func putMailbox(s *octet.Sink, a api.Addr) {
	s.Text(a.Local)
	s.Text(a.Domain)
}

// stateFrame is the frame of a right state of the target at a place.
func stateFrame(place int, x api.State) []byte {
	s := octet.NewSink()
	s.U(uint64(place), placeSize)
	s.U(uint64(x.State), stateSize)
	s.U(uint64(x.Tries), triesSize)
	s.U(uint64(x.Due), timeSize)
	s.U(uint64(x.Code), codeSize)
	return framed(kindState, s.Bytes())
}
