package session

import (
	"slices"

	"towpath/api"
	"towpath/codec"
)

// Listener is the router's side.
type Listener struct {
	// sessions are those that are there, by their muxes.
	sessions map[int]session
}

// session is what the router has of a mux.
type session struct {
	boot  int
	heard int
	vips  []api.Addr
}

// NewListener is a listener without sessions.
func NewListener() *Listener {
	return &Listener{sessions: map[int]session{}}
}

// Receive takes a word of a mux.
func (l *Listener) Receive(from int, m api.Msg, now int) (api.Msg, bool) {
	boot, vips, ok := read(m)
	if l == nil || !ok || !isMux(from) || !isTime(now) {
		return api.Msg{}, false
	}
	said := session{boot: boot, heard: now, vips: vips}
	older, known := l.sessions[from]
	switch m.Kind {
	case api.MOpen:
		l.sessions[from] = said
		return codec.Make(api.MOpened, boot), true
	case api.MRoutes, api.MKeep:
		if !known || older.boot != boot {
			return codec.Make(api.MClose, boot), true
		}
		if m.Kind == api.MKeep {
			said.vips = older.vips
		}
		l.sessions[from] = said
	}
	return api.Msg{}, false
}

// Tick says that it is later.
func (l *Listener) Tick(now int) []int {
	gone := l.having(func(s session) bool { return now > s.heard+api.HoldTicks })
	for _, mux := range gone {
		delete(l.sessions, mux)
	}
	return gone
}

// Muxes is who announces a vip.
func (l *Listener) Muxes(vip api.Addr) []int {
	return l.having(func(s session) bool { return slices.Contains(s.vips, vip) })
}

// Sessions is who has a session.
func (l *Listener) Sessions() []int {
	return l.having(func(session) bool { return true })
}

// having is the muxes that have such a session, rising.
func (l *Listener) having(such func(session) bool) []int {
	if l == nil {
		return nil
	}
	var muxes []int
	for mux, s := range l.sessions {
		if such(s) {
			muxes = append(muxes, mux)
		}
	}
	slices.Sort(muxes)
	return muxes
}
