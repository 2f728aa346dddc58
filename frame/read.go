package frame

import (
	"pigeonhole/api"
	"pigeonhole/octet"
)

// unveiling is veiled bytes, the place up to which they are read, and what they stand for.
type unveiling struct {
	veiled []byte
	at     int
	plain  []byte
}

// next reads one byte on.
func (u *unveiling) next() api.Errno {
	left := u.veiled[u.at:]
	switch {
	case len(left) == 0:
		return api.ErrShort
	case left[0] == mark:
		return api.ErrForm
	case left[0] != veil:
		u.plain = append(u.plain, left[0])
		u.at++
		return api.OK
	case len(left) == 1:
		return api.ErrShort
	case left[1] > veil-mark:
		return api.ErrForm
	}
	u.plain = append(u.plain, mark+left[1])
	u.at += 2
	return api.OK
}

// upTo reads on till there are n plain bytes.
func (u *unveiling) upTo(n int) api.Errno {
	// They are not made room for at once: a length may tell of far more than is there.
	for len(u.plain) < n {
		if e := u.next(); e != api.OK {
			return e
		}
	}
	return api.OK
}

// At is the frame at a place.
func At(b []byte, at int) (f api.Frame, e api.Errno) {
	switch {
	case at < 0 || at > len(b):
		return api.Frame{}, api.ErrArg
	case at == len(b):
		return api.Frame{}, api.ErrShort
	case b[at] != mark:
		return api.Frame{}, api.ErrForm
	}
	u := unveiling{veiled: b, at: at + 1}
	if e := u.upTo(sumAt); e != api.OK {
		return api.Frame{}, e
	}
	n, _ := octet.Get(u.plain, lengthAt, lengthSize)
	if n > api.MaxPayload {
		return api.Frame{}, api.ErrLarge
	}
	end := payloadAt + int(n)
	if e := u.upTo(end); e != api.OK {
		return api.Frame{}, e
	}
	sum, _ := octet.Get(u.plain, sumAt, sumSize)
	payload := u.plain[payloadAt:end:end]
	if sum != sumOf(u.plain[:sumAt], payload) {
		return api.Frame{}, api.ErrSum
	}
	return api.Frame{At: at, Len: u.at - at, Kind: int(u.plain[0]), Payload: payload}, api.OK
}

// Row is the frames from the beginning on.
func Row(b []byte) (l []api.Frame, used int, e api.Errno) {
	for used < len(b) {
		f, e := At(b, used)
		if e != api.OK {
			return l, used, e
		}
		l = append(l, f)
		used += f.Len
	}
	return l, used, api.OK
}

// Scan is the frames, and what is none.
func Scan(b []byte) (l []api.Frame, gaps []api.Gap) {
	from := 0
	shut := func(to int) {
		if from < to {
			gaps = append(gaps, api.Gap{From: from, To: to})
		}
	}
	for at := 0; at < len(b); {
		f, e := At(b, at)
		if e != api.OK {
			at++
			continue
		}
		shut(at)
		l = append(l, f)
		at += f.Len
		from = at
	}
	shut(len(b))
	return l, gaps
}
