package server

import (
	"milepost/api"
	"milepost/channel"
	"milepost/gram"
	"milepost/message"
	"milepost/session"
	"milepost/table"
)

// hear takes a datagram of an entry.
func (s *Server) hear(e *table.Entry, g api.Gram) (out []Packet, heard []api.Heard) {
	got, grams := e.Recv(s.now, g)
	if len(got) > 0 {
		e.Last = s.now
	}
	out = packets(e.Peer, grams...)
	for _, body := range got {
		// What is no message has no Kind.
		m, _ := message.Decode(body)
		switch m.Kind {
		case api.Report:
			heard = append(heard, heardOf(e, m))
			out = append(out, s.say(e, e.Report(m.Pos, s.shuts.Mask()))...)
		case api.Bye:
			s.table.Drop(e.Peer)
			return out, append(heard, heardOf(e, m))
		}
	}
	return out, heard
}

// greet takes a datagram of a connection that is not there: with an Open it comes, if it may.
func (s *Server) greet(peer int, g api.Gram, may api.Errno) (out []Packet, heard []api.Heard) {
	m, _ := message.Decode(g.Body)
	isOpen := g.Kind == api.Data && g.Seq == 0 && m.Kind == api.Open
	switch {
	case !isOpen || may == api.ErrGone:
		return reset(peer, g.Conn, api.Unknown), nil
	case may == api.ErrFull:
		return reset(peer, g.Conn, api.Busy), nil
	}
	way, told, e := session.New(s.engine, m.Pos, m.Dest, s.shuts.Mask())
	if e != api.OK {
		return reset(peer, g.Conn, api.Refused), nil
	}
	there := s.enter(peer, g.Conn, way)
	_, grams := there.Recv(s.now, g)
	out = append(packets(peer, grams...), s.say(there, told)...)
	return out, []api.Heard{heardOf(there, m)}
}

// enter is the new entry of a connection that may come.
func (s *Server) enter(peer, conn int, way *session.Session) *table.Entry {
	line, _ := channel.New(s.config, conn)
	there := &table.Entry{Peer: peer, Conn: conn, Channel: line, Session: way, Last: s.now}
	s.table.Add(there)
	return there
}

// say pushes messages to an entry, till it is lost, and tells what goes out.
func (s *Server) say(e *table.Entry, all []api.Msg) []Packet {
	var out []Packet
	for _, m := range all {
		if s.isLost(e) {
			break
		}
		// All that a Session tells can be written.
		body, _ := message.Encode(m)
		grams, why := e.Push(s.now, body...)
		if why != api.OK {
			s.lose(e)
		}
		out = append(out, packets(e.Peer, grams...)...)
	}
	return out
}

// changed says to all what they are told when edges were closed, or opened; nothing, if none was.
func (s *Server) changed(shut, open []int) []Packet {
	if len(shut)+len(open) == 0 {
		return nil
	}
	var out []Packet
	for _, e := range s.table.All() {
		out = append(out, s.say(e, e.Changed(shut, open, s.shuts.Mask()))...)
	}
	return out
}

// pass is what goes out once more; those that were not acked for too long are lost.
func (s *Server) pass() []Packet {
	var out []Packet
	for _, e := range s.table.All() {
		grams, why := e.Pass(s.now)
		if why != api.OK {
			s.lose(e)
		}
		out = append(out, packets(e.Peer, grams...)...)
	}
	return out
}

// expire lets those go that are lost, or were not heard from for too long.
func (s *Server) expire() []Packet {
	var out []Packet
	for _, e := range s.table.All() {
		if s.isLost(e) || e.Last+s.config.Idle <= s.now {
			s.table.Drop(e.Peer)
			out = append(out, reset(e.Peer, e.Conn, api.Expired)...)
		}
	}
	return out
}

// lose makes an entry lost: nothing is said to it any more.
func (s *Server) lose(e *table.Entry) { s.lost[e.Peer] = e.Conn }

// isLost tells whether an entry is lost.
func (s *Server) isLost(e *table.Entry) bool { return s.lost[e.Peer] == e.Conn }

// heardOf is that a message came from an entry.
func heardOf(e *table.Entry, m api.Msg) api.Heard {
	return api.Heard{D: e.Peer, Conn: e.Conn, Up: true, Msg: m}
}

// packets is datagrams, as they go to a peer.
func packets(peer int, grams ...api.Gram) []Packet {
	var out []Packet
	for _, g := range grams {
		// All that a Channel, or a Server, sends can be written.
		b, _ := gram.Encode(g)
		out = append(out, Packet{Peer: peer, Data: b})
	}
	return out
}

// reset is one that goes to a peer.
func reset(peer, conn, code int) []Packet {
	return packets(peer, api.Gram{Conn: conn, Kind: api.Reset, Code: code})
}
