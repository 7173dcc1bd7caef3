package piece

import (
	"bytes"
	"fingerpost/api"
)

// Joiner puts pieces of one sender together.
type Joiner struct {
	began bool // whether a piece came
	id    uint32
	parts []part // of the body; none, once it is over
}

type part struct {
	there bool // what is there may have no bytes
	text  []byte
}

// New is a joiner to which nothing came.
func New() *Joiner {
	return &Joiner{}
}

// Take takes a piece: the whole body, once all are there.
func (j *Joiner) Take(p Piece) (body []byte, done bool, e api.Errno) {
	if e = j.look(p); e != api.OK {
		return nil, false, e
	}
	if j.isNext(p.Id) {
		*j = Joiner{began: true, id: p.Id, parts: make([]part, p.Many)}
	}
	if e = j.keep(p); e != api.OK {
		return nil, false, e
	}
	if have, many := j.Waits(); have < many {
		return nil, false, api.OK
	}
	body = j.joined()
	j.end()
	return body, true, api.OK
}

// Waits is how many pieces of the body that is under way are there, and how many it has.
func (j *Joiner) Waits() (have, many int) {
	if j == nil {
		return 0, 0
	}
	for _, x := range j.parts {
		if x.there {
			have++
		}
	}
	return have, len(j.parts)
}

// look says whether a piece is of the body that is under way, or of one that begins with it.
func (j *Joiner) look(p Piece) api.Errno {
	switch {
	case j == nil:
		return api.ErrNil
	case !right(p):
		return api.ErrArg
	case j.isNext(p.Id):
		return api.OK
	case p.Id < j.id || j.isOver():
		return api.ErrOld
	case p.Many != len(j.parts):
		return api.ErrForm
	}
	return api.OK
}

// isNext says whether a body of a number is none that the joiner knew.
func (j *Joiner) isNext(id uint32) bool {
	return !j.began || id > j.id
}

func (j *Joiner) isOver() bool {
	return len(j.parts) == 0
}

// keep lays a piece of the body that is under way to its place.
func (j *Joiner) keep(p Piece) api.Errno {
	at := &j.parts[p.At]
	switch {
	case at.there && bytes.Equal(at.text, p.Part):
		return api.OK
	case at.there:
		return api.ErrTwice
	case j.size()+len(p.Part) > api.MaxBody:
		j.end()
		return api.ErrLimit
	}
	*at = part{there: true, text: bytes.Clone(p.Part)}
	return api.OK
}

// size is how many bytes are there.
func (j *Joiner) size() int {
	n := 0
	for _, x := range j.parts {
		n += len(x.text)
	}
	return n
}

// joined is all that is there, in order.
func (j *Joiner) joined() []byte {
	var body []byte
	for _, x := range j.parts {
		body = append(body, x.text...)
	}
	return body
}

// end lets go of a body's parts: what comes of it from now on is too late.
func (j *Joiner) end() {
	*j = Joiner{began: true, id: j.id}
}
