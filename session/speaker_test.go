package session_test

import (
	"errors"
	"math"
	"runtime"
	"slices"
	"testing"

	"towpath/api"
	"towpath/session"
)

// P18.1

func TestNewSpeakerTakesMuxesAndBoots(t *testing.T) {
	for _, node := range muxes {
		for _, boot := range []int{0, 1, 2, 1 << 20, 1<<32 + 1, lastTime - 1, lastTime} {
			s := made(t, node, boot)
			isOpen(t, s, false)
			spoke(t, s)
			s.Tick(4)
			spoke(t, s, msg(api.MOpen, boot))
			s.Receive(msg(api.MOpened, boot))
			isOpen(t, s, true)
			spoke(t, s, routes(boot))
		}
	}
}

func TestNewSpeakerRefusesOthers(t *testing.T) {
	refused := func(node, boot int) {
		t.Helper()
		if s, err := session.NewSpeaker(node, boot); s != nil || !errors.Is(err, api.ErrNode) {
			t.Fatalf("NewSpeaker(%d, %d) = %v, %v, want ErrNode", node, boot, s, err)
		}
	}
	for _, node := range notMuxes {
		refused(node, 0)
		refused(node, lastTime)
		refused(node, -1)
	}
	for _, boot := range notTimes {
		for _, node := range muxes {
			refused(node, boot)
		}
	}
}

// speaksAt is whether a speaker says something at a time, as the chapter has it.
func speaksAt(now int) bool {
	return now == 0 || now == 4 || now == 8 || now == 12 || now == 16 || now == 1<<20 || now == 1<<32 || now == lastTime-4 || now == lastTime
}

func someTimes() []int {
	times := slices.Clone(notTimes)
	for now := range 20 {
		times = append(times, now)
	}
	for _, now := range []int{1 << 20, 1 << 32, lastTime - 4, lastTime} {
		times = append(times, now-1, now, now-2, now-3)
	}
	return times
}

func TestATickOfASessionThatIsNotOpen(t *testing.T) {
	for _, now := range someTimes() {
		s := made(t, 39, 7)
		s.Announce(vipA)
		s.Tick(now)
		if speaksAt(now) {
			spoke(t, s, msg(api.MOpen, 7))
		} else {
			spoke(t, s)
		}
		isOpen(t, s, false)
	}
}

func TestATickOfAnOpenSession(t *testing.T) {
	for _, now := range someTimes() {
		s := opened(t, 7, vipA, vipB)
		s.Tick(now)
		if speaksAt(now) {
			spoke(t, s, routes(7, vipA, vipB))
		} else {
			spoke(t, s)
		}
		isOpen(t, s, true)
	}
}

func TestEachTickCounts(t *testing.T) {
	s := made(t, 32, 3)
	for range 3 {
		s.Tick(4)
	}
	s.Tick(0)
	spoke(t, s, msg(api.MOpen, 3), msg(api.MOpen, 3), msg(api.MOpen, 3), msg(api.MOpen, 3))
	s = opened(t, 3)
	for _, now := range []int{8, 8, 4, lastTime, 0} {
		s.Tick(now)
	}
	spoke(t, s, routes(3), routes(3), routes(3), routes(3), routes(3))
}

func TestOutTellsWordsInTheirOrder(t *testing.T) {
	s := made(t, 32, 9)
	s.Tick(4)
	s.Announce(vipB)
	s.Receive(msg(api.MOpened, 9))
	s.Announce(vipB, vipA)
	s.Receive(msg(api.MClose, 9))
	s.Announce(vipC)
	s.Tick(8)
	s.Receive(msg(api.MOpened, 9))
	s.Tick(12)
	spoke(t, s, msg(api.MOpen, 9), routes(9, vipB), routes(9, vipA, vipB), msg(api.MOpen, 9), routes(9, vipC), routes(9, vipC))
}

func TestVipsAreAnnouncedInOrder(t *testing.T) {
	for _, c := range []struct{ vips, want []api.Addr }{
		{nil, nil},
		{[]api.Addr{vipA}, []api.Addr{vipA}},
		{[]api.Addr{vipB, vipA}, []api.Addr{vipA, vipB}},
		{[]api.Addr{vipA, vipA}, []api.Addr{vipA}},
		{[]api.Addr{vipC, vipA, vipC, vipB, vipA, vipC}, []api.Addr{vipA, vipB, vipC}},
		{[]api.Addr{0, vipB, 0x0a010001, vipA, 0x7f000001, 0xe0000000}, []api.Addr{vipA, vipB}},
		{[]api.Addr{0xdfffffff, 0x01000000}, []api.Addr{0x01000000, 0xdfffffff}},
		{allVips, allVips},
		{notVips, nil},
		{slices.Concat(notVips, allVips, notVips), allVips},
	} {
		s := made(t, 32, 1)
		s.Announce(c.vips...)
		spoke(t, s)
		s.Receive(msg(api.MOpened, 1))
		spoke(t, s, routes(1, c.want...))

		s = opened(t, 1, 0x03030303)
		s.Announce(c.vips...)
		spoke(t, s, routes(1, c.want...))
		s.Tick(4)
		spoke(t, s, routes(1, c.want...))
	}
}

func TestThirtyNineVipsAreAnnounced(t *testing.T) {
	all := row(60)
	for count := range 61 {
		vips := slices.Clone(all[:count])
		slices.Reverse(vips)
		s := opened(t, 1, vipC)
		s.Announce(slices.Concat(notVips, vips, vips)...)
		spoke(t, s, routes(1, all[:min(count, 39)]...))
	}
	many := row(1 << 16)
	for seed := range uint64(3) {
		generator(seed).Shuffle(len(many), func(i, j int) { many[i], many[j] = many[j], many[i] })
		s := opened(t, 1)
		s.Announce(many...)
		spoke(t, s, routes(1, all[:39]...))
	}
}

// Of a long list no more memory is kept than that of the vips that are said.
func TestALongListIsNotKept(t *testing.T) {
	const many = 1 << 22
	s := opened(t, 1)
	before := heap()
	s.Announce(row(many)...)
	if kept := int64(heap()) - int64(before); kept > many {
		t.Fatalf("%d bytes are kept", kept)
	}
	spoke(t, s, routes(1, row(39)...))
}

// heap is how many bytes are in use.
func heap() uint64 {
	runtime.GC()
	var m runtime.MemStats
	runtime.ReadMemStats(&m)
	return m.HeapAlloc
}

func TestAnnounceSpeaksOfOtherVipsAlone(t *testing.T) {
	s := opened(t, 2)
	s.Announce()
	s.Announce(notVips...)
	spoke(t, s)
	s.Announce(vipB, vipA)
	spoke(t, s, routes(2, vipA, vipB))
	s.Announce(vipA, vipB)
	s.Announce(vipB, vipA, vipA, 0)
	spoke(t, s)
	s.Announce(vipA)
	spoke(t, s, routes(2, vipA))
	s.Announce(vipB)
	spoke(t, s, routes(2, vipB))
	s.Announce()
	spoke(t, s, routes(2))
	s.Announce(row(39)...)
	spoke(t, s, routes(2, row(39)...))
	s.Announce(row(41)...)
	spoke(t, s)
}

func TestAnnounceBeforeTheSessionIsOpen(t *testing.T) {
	s := made(t, 32, 2)
	s.Announce(vipA)
	s.Announce(vipB, vipC)
	spoke(t, s)
	isOpen(t, s, false)
	s.Receive(msg(api.MOpened, 2))
	spoke(t, s, routes(2, vipB, vipC))
	s.Receive(msg(api.MClose, 2))
	s.Announce(vipA)
	spoke(t, s)
	isOpen(t, s, false)
	s.Receive(msg(api.MOpened, 2))
	spoke(t, s, routes(2, vipA))
	s.Receive(msg(api.MClose, 2))
	s.Receive(msg(api.MOpened, 2))
	spoke(t, s, routes(2, vipA))
}

func TestOpenedAndClosedAgain(t *testing.T) {
	s := made(t, 32, 2)
	for range 3 {
		s.Receive(msg(api.MClose, 2))
		isOpen(t, s, false)
		s.Receive(msg(api.MClose, 2))
		isOpen(t, s, false)
		spoke(t, s)
		s.Receive(msg(api.MOpened, 2))
		isOpen(t, s, true)
		spoke(t, s, routes(2))
		s.Receive(msg(api.MOpened, 2))
		isOpen(t, s, true)
		spoke(t, s, routes(2))
	}
}

// notForSpeakers are messages that do nothing at a speaker of the boot 4.
func notForSpeakers() []api.Msg {
	list := []api.Msg{{}, msg(api.MOpened), msg(api.MClose)}
	for _, kind := range []int{api.MOpened, api.MClose} {
		for _, boot := range append([]int{0, 3, 5, 8, 1<<32 + 4, lastTime, -4}, notTimes...) {
			list = append(list, msg(kind, boot), msg(kind, boot, 4))
		}
		list = append(list, msg(kind, 4, 4), msg(kind, 4, 0), msg(kind, 4, int(vipA)), msg(kind, 4, 5, 6), msg(kind, make([]int, 1<<16)...))
	}
	for kind := -3; kind < 300; kind++ {
		if kind != api.MOpened && kind != api.MClose {
			list = append(list, msg(kind), msg(kind, 4), msg(kind, 4, int(vipA)))
		}
	}
	for _, kind := range []int{math.MaxInt, math.MinInt, 256 + api.MOpened, 256 + api.MClose, 1<<32 + api.MOpened, 1<<32 + api.MClose} {
		list = append(list, msg(kind), msg(kind, 4))
	}
	return list
}

func TestOtherWordsDoNothingAtASpeaker(t *testing.T) {
	for _, m := range notForSpeakers() {
		s := made(t, 32, 4)
		s.Announce(vipA)
		s.Receive(m)
		isOpen(t, s, false)
		spoke(t, s)

		s = opened(t, 4, vipA)
		s.Receive(m)
		isOpen(t, s, true)
		spoke(t, s)
		s.Announce(vipA)
		spoke(t, s)
		s.Tick(4)
		spoke(t, s, routes(4, vipA))
	}
}

// The chapter says nothing of a word's Data.
func TestDataChangesNothingAtASpeaker(t *testing.T) {
	s := made(t, 32, 4)
	s.Receive(api.Msg{Kind: api.MOpened, Nums: []int{4}, Data: []byte("data")})
	isOpen(t, s, true)
	spoke(t, s, routes(4))
	s.Receive(api.Msg{Kind: api.MClose, Nums: []int{4}, Data: []byte("data")})
	isOpen(t, s, false)
}

func TestANilSpeaker(t *testing.T) {
	var s *session.Speaker
	s.Announce()
	s.Announce(vipA)
	for _, m := range append(notForSpeakers(), msg(api.MOpened, 0), msg(api.MClose, 0)) {
		s.Receive(m)
	}
	for _, now := range someTimes() {
		s.Tick(now)
	}
	isOpen(t, s, false)
	spoke(t, s)
}

func TestSpeakersAreApart(t *testing.T) {
	a, b := made(t, 32, 0), made(t, 32, 0)
	a.Announce(vipA)
	a.Receive(msg(api.MOpened, 0))
	a.Tick(4)
	isOpen(t, b, false)
	spoke(t, b)
	b.Receive(msg(api.MOpened, 0))
	spoke(t, b, routes(0))
	b.Receive(msg(api.MClose, 0))
	isOpen(t, a, true)
	spoke(t, a, routes(0, vipA), routes(0, vipA))
}

// script is a speaker kept another way: all that was done, from which what it must have said is worked out anew.
type script struct {
	boot  int
	steps []step
}

// step is a word that was received, a time, or vips that were announced.
type step struct {
	word *api.Msg
	now  int
	vips map[api.Addr]bool
}

// openAt is whether the session is open behind so many steps: the last word of its boot tells.
func (s script) openAt(count int) bool {
	for i := count - 1; i >= 0; i-- {
		if m := s.steps[i].word; m != nil && len(m.Nums) == 1 && m.Nums[0] == s.boot {
			switch m.Kind {
			case 11:
				return true
			case 14:
				return false
			}
		}
	}
	return false
}

// vipsAt is what is announced behind so many steps.
func (s script) vipsAt(count int) []api.Addr {
	for i := count - 1; i >= 0; i-- {
		if set := s.steps[i].vips; set != nil {
			var vips []api.Addr
			for _, vip := range slices.Concat(row(60), allVips) {
				if set[vip] {
					vips = append(vips, vip)
				}
			}
			slices.Sort(vips)
			return vips[:min(39, len(vips))]
		}
	}
	return nil
}

// saidAt is what is said by the step at a place.
func (s script) saidAt(place int) []api.Msg {
	was, is := s.openAt(place), s.openAt(place+1)
	said := routes(s.boot, s.vipsAt(place+1)...)
	step := s.steps[place]
	switch {
	case step.word != nil:
		if m := step.word; is && m.Kind == 11 && len(m.Nums) == 1 && m.Nums[0] == s.boot {
			return []api.Msg{said}
		}
	case step.vips != nil:
		if is && !slices.Equal(s.vipsAt(place), s.vipsAt(place+1)) {
			return []api.Msg{said}
		}
	case step.now >= 0 && step.now <= lastTime && step.now%4 == 0:
		if !was {
			return []api.Msg{msg(10, s.boot)}
		}
		return []api.Msg{said}
	}
	return nil
}

func TestAnyOrderOfASpeakersCalls(t *testing.T) {
	pool := slices.Concat(row(60), allVips, notVips)
	for seed := range uint64(300) {
		random := generator(seed)
		boots := []int{0, 1, 2, lastTime}
		boot := boots[random.IntN(len(boots))]
		s, known := made(t, 32+random.IntN(8), boot), script{boot: boot}
		var want []api.Msg
		for place := range 60 {
			var next step
			switch random.IntN(4) {
			case 0, 1:
				m := msg(api.MOpen+random.IntN(5), boot)
				if random.IntN(4) == 0 {
					m.Nums[0] = boots[random.IntN(len(boots))]
				}
				if random.IntN(8) == 0 {
					m.Nums = append(m.Nums, int(vipA))
				}
				next.word = &m
				s.Receive(m)
			case 2:
				next.now = random.IntN(30) - 8
				s.Tick(next.now)
			case 3:
				vips := make([]api.Addr, random.IntN(4)*random.IntN(25))
				next.vips = map[api.Addr]bool{}
				for i := range vips {
					vips[i] = pool[random.IntN(len(pool))]
					next.vips[vips[i]] = true
				}
				s.Announce(vips...)
			}
			known.steps = append(known.steps, next)
			want = append(want, known.saidAt(place)...)
			isOpen(t, s, known.openAt(place+1))
			if random.IntN(3) == 0 {
				spoke(t, s, want...)
				want = nil
			}
		}
		spoke(t, s, want...)
	}
}
