package index

import "pigeonhole/api"

// List are the messages.
func (x *Index) List(gone bool) []api.Entry {
	return x.mail.List(gone)
}

// Get is a message.
func (x *Index) Get(uid int) (api.Entry, bool) {
	return x.mail.Get(uid)
}

// From is the message of an origin.
func (x *Index) From(origin int) (api.Entry, bool) {
	return x.mail.From(origin)
}

// Use is how much there is.
func (x *Index) Use() api.Use {
	return x.mail.Use()
}

// Next is the next number.
func (x *Index) Next() int {
	return x.mail.Next()
}

// Bodies are the live messages' bodies.
func (x *Index) Bodies() []int {
	return x.mail.Bodies()
}

// Behind tells whether the log is behind.
func (x *Index) Behind() bool {
	return !x.isTold() || !x.log.Whole()
}

// Broken is how many bytes of the box stand in no record.
func (x *Index) Broken() int {
	return x.box.Broken()
}

// Read is the record that tells a message, from its file.
func (x *Index) Read(uid int) (api.Rec, api.Errno) {
	if _, there := x.mail.Get(uid); !there {
		return api.Rec{}, api.ErrNone
	}
	return x.box.Get(x.messages[uid])
}
