package session_test

import (
	"bytes"
	"math"
	"math/rand/v2"
	"slices"
	"testing"

	"towpath/api"
	"towpath/codec"
	"towpath/session"
)

const (
	vipA api.Addr = 0x01010101
	vipB api.Addr = 0x02020202
	vipC api.Addr = 0xdf030303

	lastTime = 1 << 40
	hold     = 12
)

var (
	muxes    = []int{32, 33, 34, 35, 36, 37, 38, 39}
	notMuxes = []int{0, 1, 15, 16, 23, 24, 31, 40, 41, 47, 48, 55, 56, 64, -1, -32, 256 + 32, 1<<32 + 32, math.MaxInt, math.MinInt, math.MinInt + 32}

	// notTimes are no boots either. Those of them that 4 divides would be times to speak.
	notTimes = []int{-1, -2, -3, -4, -8, -12, -1 << 40, lastTime + 1, lastTime + 3, lastTime + 4, lastTime + 8, 2 * lastTime, 1 << 62, math.MaxInt, math.MaxInt - 3, math.MinInt, math.MinInt + 1, math.MinInt + 4}

	// notVips are addresses ahead of what is allowed, behind it, and between.
	notVips = []api.Addr{0, 1, 0x00ffffff, 0x0a000000, 0x0a000020, 0x0a010000, 0x0affffff, 0x7f000000, 0x7f000001, 0x7fffffff, 0xe0000000, 0xe0000001, math.MaxUint32}
	allVips = []api.Addr{0x01000000, vipA, vipB, 0x09ffffff, 0x0b000000, 0x7effffff, 0x80000000, vipC, 0xdfffffff}
)

func generator(seed uint64) *rand.Rand {
	return rand.New(rand.NewPCG(seed, 18))
}

func msg(kind int, nums ...int) api.Msg {
	return api.Msg{Kind: kind, Nums: nums}
}

// routes is the word MRoutes, written down number by number.
func routes(boot int, vips ...api.Addr) api.Msg {
	m := api.Msg{Kind: api.MRoutes, Nums: []int{boot}}
	for _, vip := range vips {
		m.Nums = append(m.Nums, int(vip))
	}
	return m
}

func same(a, b api.Msg) bool {
	return a.Kind == b.Kind && slices.Equal(a.Nums, b.Nums) && bytes.Equal(a.Data, b.Data)
}

func isZero(m api.Msg) bool {
	return same(m, api.Msg{})
}

// row is so many vips that rise.
func row(count int) []api.Addr {
	var vips []api.Addr
	for i := range count {
		vips = append(vips, 0x05000000+api.Addr(i)*7)
	}
	return vips
}

func made(t *testing.T, node, boot int) *session.Speaker {
	t.Helper()
	s, err := session.NewSpeaker(node, boot)
	if s == nil || err != nil {
		t.Fatalf("NewSpeaker(%d, %d) = %v, %v", node, boot, s, err)
	}
	return s
}

// spoke wants the speaker to have said this since it was asked last, and to tell it once.
func spoke(t *testing.T, s *session.Speaker, want ...api.Msg) {
	t.Helper()
	said := s.Out()
	if !slices.EqualFunc(said, want, same) {
		t.Fatalf("Out() = %.400v, want %.400v", said, want)
	}
	for _, m := range said {
		if _, err := codec.Frame(m); err != nil {
			t.Fatalf("%.400v can't be framed: %v", m, err)
		}
	}
	if said := s.Out(); len(said) > 0 {
		t.Fatalf("Out() told twice: %.400v", said)
	}
}

func isOpen(t *testing.T, s *session.Speaker, want bool) {
	t.Helper()
	if s.Open() != want {
		t.Fatalf("Open() = %v, want %v", s.Open(), want)
	}
}

// opened is a speaker of mux 32 whose session is open, with all that it said so far told.
func opened(t *testing.T, boot int, vips ...api.Addr) *session.Speaker {
	t.Helper()
	s := made(t, 32, boot)
	s.Announce(vips...)
	s.Receive(msg(api.MOpened, boot))
	isOpen(t, s, true)
	spoke(t, s, routes(boot, vips...))
	return s
}

// answers wants the listener to answer this.
func answers(t *testing.T, l *session.Listener, from int, m api.Msg, now int, want api.Msg) {
	t.Helper()
	if got, ok := l.Receive(from, m, now); !same(got, want) || !ok {
		t.Fatalf("Receive(%d, %.200v, %d) = %.200v, %v, want %v, true", from, m, now, got, ok, want)
	}
}

// silent wants the listener to answer nothing.
func silent(t *testing.T, l *session.Listener, from int, m api.Msg, now int) {
	t.Helper()
	if got, ok := l.Receive(from, m, now); !isZero(got) || ok {
		t.Fatalf("Receive(%d, %.200v, %d) = %.200v, %v, want none", from, m, now, got, ok)
	}
}

// gone wants these muxes' sessions to be gone by a tick.
func gone(t *testing.T, l *session.Listener, now int, want ...int) {
	t.Helper()
	if got := l.Tick(now); !slices.Equal(got, want) {
		t.Fatalf("Tick(%d) = %v, want %v", now, got, want)
	}
}

// has wants these muxes to have sessions.
func has(t *testing.T, l *session.Listener, want ...int) {
	t.Helper()
	if got := l.Sessions(); !slices.Equal(got, want) {
		t.Fatalf("Sessions() = %v, want %v", got, want)
	}
}

// announce wants these muxes to announce the vip.
func announce(t *testing.T, l *session.Listener, vip api.Addr, want ...int) {
	t.Helper()
	if got := l.Muxes(vip); !slices.Equal(got, want) {
		t.Fatalf("Muxes(%#x) = %v, want %v", vip, got, want)
	}
}

// heard is a listener to which mux 32 said these vips at a time.
func heard(t *testing.T, boot, now int, vips ...api.Addr) *session.Listener {
	t.Helper()
	l := session.NewListener()
	answers(t, l, 32, msg(api.MOpen, boot), now, msg(api.MOpened, boot))
	silent(t, l, 32, routes(boot, vips...), now)
	return l
}

// P18.1

func TestExample(t *testing.T) {
	s, l := made(t, 32, 0), session.NewListener()
	s.Announce(0x01010101)
	s.Tick(4)
	spoke(t, s, msg(api.MOpen, 0))
	answers(t, l, 32, msg(api.MOpen, 0), 4, msg(api.MOpened, 0))
	s.Receive(msg(api.MOpened, 0))
	spoke(t, s, msg(api.MRoutes, 0, 16843009))
	silent(t, l, 32, msg(api.MRoutes, 0, 16843009), 5)
	announce(t, l, 0x01010101, 32)
	gone(t, l, 17)
	gone(t, l, 18, 32)
}

// P18.4

func TestWhatIsHandedInStays(t *testing.T) {
	memory := []api.Addr{vipC, 0, vipA, vipC, vipB, vipA, 9, 9}
	want := slices.Clone(memory)
	s := made(t, 32, 5)
	s.Announce(memory[:6]...)
	if !slices.Equal(memory, want) {
		t.Fatalf("Announce made %v of what it was handed", memory)
	}

	m := api.Msg{Kind: api.MOpened, Nums: []int{5, 7, 7}[:1], Data: []byte("data")[:2]}
	s.Receive(m)
	s.Announce(memory[:3]...)
	isOpen(t, s, true)
	m.Kind = api.MClose
	s.Receive(m)
	isOpen(t, s, false)
	stays(t, m, []int{5, 7, 7}, "data")

	l := session.NewListener()
	m.Kind = api.MOpen
	answers(t, l, 32, m, 0, msg(api.MOpened, 5))
	m.Kind = api.MKeep
	silent(t, l, 32, m, 0)
	stays(t, m, []int{5, 7, 7}, "data")
	m = api.Msg{Kind: api.MRoutes, Nums: []int{5, int(vipA), int(vipB), 7, 7}[:3]}
	silent(t, l, 32, m, 0)
	answers(t, l, 33, m, 0, msg(api.MClose, 5))
	stays(t, m, []int{5, int(vipA), int(vipB), 7, 7}, "")
}

// stays wants a message to have these numbers and bytes, those in its spare room too.
func stays(t *testing.T, m api.Msg, nums []int, data string) {
	t.Helper()
	if got := m.Nums[:cap(m.Nums)]; !slices.Equal(got, nums) {
		t.Fatalf("the numbers %v became %v", nums, got)
	}
	if got := m.Data[:cap(m.Data)]; string(got[:len(data)]) != data {
		t.Fatalf("the data %q became %q", data, got)
	}
}

func TestWhatIsHandedInIsNotKept(t *testing.T) {
	memory := []api.Addr{vipA, vipB, vipC}
	s := opened(t, 5)
	s.Announce(memory...)
	spoke(t, s, routes(5, vipA, vipB, vipC))
	clear(memory)
	s.Tick(4)
	spoke(t, s, routes(5, vipA, vipB, vipC))
	s.Announce(vipA, vipB, vipC)
	spoke(t, s)

	nums := []int{5}
	m := api.Msg{Kind: api.MOpen, Nums: nums}
	l := session.NewListener()
	opening, _ := l.Receive(32, m, 0)
	nums[0] = 6
	if !same(opening, msg(api.MOpened, 5)) {
		t.Fatalf("the answer became %v", opening)
	}
	closing, _ := l.Receive(32, routes(7), 0)
	if !same(closing, msg(api.MClose, 7)) {
		t.Fatalf("Receive(32, MRoutes 7) = %v", closing)
	}
	m = routes(5, vipA, vipB)
	silent(t, l, 32, m, 0)
	m.Nums[0], m.Nums[1], m.Nums[2] = 6, int(vipB), int(vipC)
	announce(t, l, vipA, 32)
	announce(t, l, vipB, 32)
	announce(t, l, vipC)
	silent(t, l, 32, msg(api.MKeep, 5), 0)
}

func TestAnswersAreNewMemory(t *testing.T) {
	s := opened(t, 5, vipA, vipB)
	for range 3 {
		s.Tick(4)
		s.Receive(msg(api.MOpened, 5))
		said := s.Out()
		if len(said) != 2 {
			t.Fatalf("Out() = %v, want two words", said)
		}
		spoil(said[0].Nums)
		if !same(said[1], routes(5, vipA, vipB)) {
			t.Fatalf("two words share their numbers: %v", said[1])
		}
		spoil(said[1].Nums)
		clear(said[:cap(said)])
		spoke(t, s)
	}
	s.Tick(8)
	said := s.Out()
	s.Tick(12)
	s.Announce(vipC)
	s.Receive(msg(api.MClose, 5))
	if !slices.EqualFunc(said, []api.Msg{routes(5, vipA, vipB)}, same) {
		t.Fatalf("what was told became %v", said)
	}
	spoke(t, s, routes(5, vipA, vipB), routes(5, vipC))
}

func TestListenersAnswersAreNewMemory(t *testing.T) {
	l := heard(t, 5, 100, vipA)
	answers(t, l, 33, msg(api.MOpen, 6), 100, msg(api.MOpened, 6))
	silent(t, l, 33, routes(6, vipA), 100)
	for range 3 {
		has(t, l, 32, 33)
		announce(t, l, vipA, 32, 33)
		spoil(l.Sessions())
		spoil(l.Muxes(vipA))
		answer, _ := l.Receive(34, msg(api.MOpen, 7), 50)
		spoil(answer.Nums)
		silent(t, l, 34, msg(api.MKeep, 7), 50)
		answer, _ = l.Receive(34, msg(api.MKeep, 8), 50)
		spoil(answer.Nums)
		answers(t, l, 34, msg(api.MKeep, 8), 50, msg(api.MClose, 8))
		spoil(l.Tick(50 + hold + 1))
		has(t, l, 32, 33)
	}
	told, announcing := l.Sessions(), l.Muxes(vipA)
	out := l.Tick(200)
	answers(t, l, 39, msg(api.MOpen, 0), 200, msg(api.MOpened, 0))
	for _, list := range [][]int{told, announcing, out} {
		if !slices.Equal(list, []int{32, 33}) {
			t.Fatalf("what was told became %v", list)
		}
	}
}

// spoil overwrites numbers, and those in their spare room.
func spoil(nums []int) {
	nums = nums[:cap(nums)]
	for i := range nums {
		nums[i] = -7
	}
}
