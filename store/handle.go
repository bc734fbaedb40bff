package store

import (
	"weirkeep/api"
	"weirkeep/wire"
)

// The kinds of messages that a server answers, and by how much an answer's kind is above its message's.
const (
	kindRead = iota + 1
	kindWrite
	kindTime
	kindEpoch

	toAnswer = 128
)

// deed is what a server does with a message of some kind: what the answer has as Data, and the status.
type deed func(s *Server, m api.Msg, now int) (string, api.Errno)

// deeds tells what is done, by kinds.
func deeds() map[int]deed {
	return map[int]deed{
		kindRead:  (*Server).onRead,
		kindWrite: (*Server).onWrite,
		kindTime:  (*Server).onTime,
		kindEpoch: (*Server).onEpoch,
	}
}

// Handle does what m asks for at the time now, and tells the answer. There is none of what is not for this server, nor if the power goes while it is done.
func (s *Server) Handle(m api.Msg, now int) (api.Msg, bool) {
	do, ok := deeds()[m.Kind]
	if !ok || m.To != s.id || wire.Check(m) != api.OK || s.Dead() {
		return api.Msg{}, false
	}
	data, status := do(s, m, now)
	if s.Dead() {
		return api.Msg{}, false
	}
	answer := wire.Reply(m, m.Kind+toAnswer)
	answer.Epoch, answer.Off = s.epoch, m.Off
	answer.Len, answer.Data = int(status), data
	return answer, true
}

// onRead tells a block as a Value, which all that lies on a shelf has.
func (s *Server) onRead(m api.Msg, _ int) (string, api.Errno) {
	if m.Epoch != s.epoch {
		return "", api.ErrEpoch
	}
	b, e := s.shelf.Get(m.Off)
	if e != api.OK {
		return "", e
	}
	return Value(b.Ver, b.Data)
}

// onWrite stores a block, once, however often the message comes.
func (s *Server) onWrite(m api.Msg, now int) (string, api.Errno) {
	if m.Epoch != s.epoch {
		return "", api.ErrEpoch
	}
	ver, data, e := Parse(m.Data)
	if e != api.OK {
		return "", e
	}
	if until, ok := s.until[m.From]; !ok || now > until {
		return "", api.ErrFence
	}
	last, ok := s.known[m.From]
	if ok && last.seq > m.Seq {
		return "", api.ErrOld
	}
	if !ok || last.seq < m.Seq {
		status := s.keep(api.Block{ID: m.Off, Ver: ver, Data: data})
		last = write{seq: m.Seq, status: status}
		s.known[m.From] = last
	}
	return "", last.status
}

// keep puts b onto the shelf, unless just that lies there: of a write that was done nothing is known any more when the power went behind it, and yet it is not old when it comes again.
func (s *Server) keep(b api.Block) api.Errno {
	if there, e := s.shelf.Get(b.ID); e == api.OK && there == b {
		return api.OK
	}
	return s.shelf.Put(b)
}

// onTime sets till when a client may write, forth or back, in whatever epoch. Off is not below 0, since wire.Check took m.
func (s *Server) onTime(m api.Msg, _ int) (string, api.Errno) {
	until, _, e := Parse(m.Data)
	if e != api.OK {
		return "", e
	}
	if m.Off >= api.MaxNode {
		return "", api.ErrArg
	}
	s.until[m.Off] = until
	return "", api.OK
}

// onEpoch lets the server be in a later epoch.
func (s *Server) onEpoch(m api.Msg, _ int) (string, api.Errno) {
	if m.Epoch < s.epoch {
		return "", api.ErrOld
	}
	s.epoch = m.Epoch
	return "", api.OK
}
