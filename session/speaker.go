package session

import (
	"slices"

	"towpath/addr"
	"towpath/api"
	"towpath/codec"
)

// Speaker is a mux's side.
type Speaker struct {
	boot int
	open bool
	vips []api.Addr
	said []api.Msg
}

// NewSpeaker is a speaker without vips.
func NewSpeaker(node, boot int) (*Speaker, error) {
	if !isMux(node) || !isTime(boot) {
		return nil, api.ErrNode
	}
	return &Speaker{boot: boot}, nil
}

// Announce says which vips are announced.
func (s *Speaker) Announce(vips ...api.Addr) {
	next := announced(vips)
	if s == nil || slices.Equal(next, s.vips) {
		return
	}
	s.vips = next
	if s.open {
		s.sayRoutes()
	}
}

// Receive takes a word of the router.
func (s *Speaker) Receive(m api.Msg) {
	boot, _, ok := read(m)
	if s == nil || !ok || boot != s.boot {
		return
	}
	switch m.Kind {
	case api.MOpened:
		s.open = true
		s.sayRoutes()
	case api.MClose:
		s.open = false
	}
}

// Tick says that it is later.
func (s *Speaker) Tick(now int) {
	switch {
	case s == nil || !isTime(now) || now%api.Retry != 0:
		return
	case s.open:
		s.sayRoutes()
	default:
		s.say(api.MOpen)
	}
}

// Out is what it said.
func (s *Speaker) Out() []api.Msg {
	if s == nil {
		return nil
	}
	said := s.said
	s.said = nil
	return said
}

// Open tells whether the session is open.
func (s *Speaker) Open() bool {
	return s != nil && s.open
}

func (s *Speaker) sayRoutes() {
	s.say(api.MRoutes, s.vips...)
}

// say says a word of its boot.
func (s *Speaker) say(kind int, vips ...api.Addr) {
	nums := []int{s.boot}
	for _, vip := range vips {
		nums = append(nums, int(vip))
	}
	s.said = append(s.said, codec.Make(kind, nums...))
}

// announced is the vips that a word can say of these addresses: rising, each once, the first ones.
func announced(addresses []api.Addr) []api.Addr {
	var vips []api.Addr
	for _, a := range addresses {
		if addr.IsVip(a) {
			vips = append(vips, a)
		}
	}
	slices.Sort(vips)
	vips = slices.Compact(vips)
	// What isn't said of a long list isn't to be kept behind the few that are.
	return slices.Clone(vips[:min(len(vips), maxVips)])
}
