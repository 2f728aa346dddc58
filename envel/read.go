package envel

import (
	"pigeonhole/api"
	"pigeonhole/frame"
	"pigeonhole/octet"
)

// reader takes a job's file frame by frame.
type reader struct {
	file []byte
	used int
	job  api.Job
}

// Read is the job whose file bytes begin with.
func Read(b []byte) (j api.Job, used int, e api.Errno) {
	r := reader{file: b}
	if !r.take(kindJob, r.told) || !r.take(kindBody, r.body) || !Good(r.job) {
		return api.Job{}, 0, api.ErrBroken
	}
	for r.take(kindState, r.state) {
	}
	return r.job, r.used, api.OK
}

// take takes the frame that stands next, if it is of that kind, and its payload can be read so.
func (r *reader) take(kind int, read func(payload []byte) bool) bool {
	f, e := frame.At(r.file, r.used)
	if e != api.OK || f.Kind != kind || !read(f.Payload) {
		return false
	}
	r.used += f.Len
	return true
}

// told takes what is told of the job, but for its body; each target is fresh. (A number that is too great for an int comes out below 0, and so isn't right.)
func (r *reader) told(payload []byte) bool {
	s := octet.NewSource(payload)
	r.job.Id = int(s.U(idSize))
	r.job.Arrival = int(s.U(timeSize))
	r.job.From = takeMailbox(s)
	for range s.U(countSize) {
		user := int(s.U(userSize))
		r.job.To = append(r.job.To, api.Target{User: user, Addr: takeMailbox(s)})
		r.job.States = append(r.job.States, Fresh(r.job.Arrival))
	}
	return s.Done() == api.OK
}

// takeMailbox takes a mailbox.
func takeMailbox(s *octet.Source) api.Addr {
	local := s.Text(api.MaxLocal)
	return api.Addr{Local: local, Domain: s.Text(api.MaxDomain)}
}

// body takes the job's body.
func (r *reader) body(payload []byte) bool {
	r.job.Body = payload
	return true
}

// state takes a state of a target, if both are right.
func (r *reader) state(payload []byte) bool {
	s := octet.NewSource(payload)
	place := int(s.U(placeSize))
	var x api.State
	x.State = int(s.U(stateSize))
	x.Tries = int(s.U(triesSize))
	x.Due = int(s.U(timeSize))
	x.Code = int(s.U(codeSize))
	if s.Done() != api.OK || place >= len(r.job.States) || !GoodState(x) {
		return false
	}
	r.job.States[place] = x
	return true
}
