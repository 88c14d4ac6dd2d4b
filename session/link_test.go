package session_test

import (
	"math/rand/v2"
	"slices"
	"testing"

	"towpath/api"
	"towpath/session"
)

// link is speakers of one mux, one behind the other, and a router, with words between them that come through within so many ticks.
type link struct {
	random   *rand.Rand
	within   int
	shuffled bool
	speaker  *session.Speaker
	router   *session.Listener
	words    []word
	now      int
}

// word is a message under way that is there at a time; of a shuffled link words may overtake one another, and be doubled.
type word struct {
	m        api.Msg
	toRouter bool
	due      int
}

func newLink(t *testing.T, seed uint64, within int, shuffled bool) *link {
	t.Helper()
	random := generator(seed)
	return &link{random: random, within: within, shuffled: shuffled, speaker: made(t, 34, 0), router: session.NewListener(), now: random.IntN(12)}
}

func (l *link) send(m api.Msg, toRouter bool) {
	w := word{m: m, toRouter: toRouter, due: l.now + l.random.IntN(l.within+1)}
	if !l.shuffled {
		for _, other := range l.words {
			if other.toRouter == toRouter {
				w.due = max(w.due, other.due)
			}
		}
	}
	l.words = append(l.words, w)
	if l.shuffled && l.random.IntN(5) == 0 {
		l.words = append(l.words, word{m: m, toRouter: toRouter, due: l.now + l.random.IntN(l.within+1)})
	}
}

// carry brings all words that are due, and those that they bring about.
func (l *link) carry() {
	for {
		for _, m := range l.speaker.Out() {
			l.send(m, true)
		}
		at := slices.IndexFunc(l.words, func(w word) bool { return w.due <= l.now })
		if at < 0 {
			return
		}
		w := l.words[at]
		l.words = slices.Delete(l.words, at, at+1)
		if !w.toRouter {
			l.speaker.Receive(w.m)
		} else if answer, ok := l.router.Receive(34, w.m, l.now); ok {
			l.send(answer, false)
		}
	}
}

// tick makes it later, and tells which sessions are gone by it.
func (l *link) tick() []int {
	l.now++
	gone := l.router.Tick(l.now)
	l.speaker.Tick(l.now)
	if l.shuffled {
		l.random.Shuffle(len(l.words), func(i, j int) { l.words[i], l.words[j] = l.words[j], l.words[i] })
	}
	l.carry()
	return gone
}

// announces has the speaker announce some of the vips.
func (l *link) announces() []api.Addr {
	var vips []api.Addr
	for _, vip := range allVips {
		if l.random.IntN(3) == 0 {
			vips = append(vips, vip)
		}
	}
	l.speaker.Announce(vips...)
	l.carry()
	return vips
}

// knows wants the router to know just these vips of the mux.
func (l *link) knows(t *testing.T, vips []api.Addr) {
	t.Helper()
	for _, vip := range allVips {
		if got := l.router.Muxes(vip); slices.Contains(got, 34) != slices.Contains(vips, vip) {
			t.Fatalf("at %d Muxes(%#x) = %v, where %v are announced", l.now, vip, got, vips)
		}
	}
}

// How late a session may be open, and the router may know what is announced: the first word is said within four ticks, and each one is under way for a while.
// In order a change is said at once; else an older word may come behind it, and the next tick's word mends that.
func (l *link) openBy() int {
	return 4 + 2*l.within
}

func (l *link) knownBy() int {
	if l.shuffled {
		return 4 + 2*l.within
	}
	return l.within
}

// run runs the link for some ticks from a speaker's beginning on, and holds it against P18.3.
func (l *link) run(t *testing.T, ticks int) {
	t.Helper()
	begin, changed := l.now, l.now
	vips := l.announces()
	open := -1
	for l.now < begin+ticks {
		gone := l.tick()
		if l.speaker.Open() && open < 0 {
			open = l.now
		}
		if open < 0 && l.now >= begin+l.openBy() || open >= 0 && !l.speaker.Open() {
			t.Fatalf("at %d Open() = %v; it began at %d and was open at %d", l.now, l.speaker.Open(), begin, open)
		}
		if open >= 0 && (len(gone) > 0 || !slices.Equal(l.router.Sessions(), []int{34})) {
			t.Fatalf("at %d %v are gone, and %v are there", l.now, gone, l.router.Sessions())
		}
		if open >= 0 && l.now >= max(open, changed)+l.knownBy() {
			l.knows(t, vips)
		}
		if l.random.IntN(10) == 0 {
			vips, changed = l.announces(), l.now
		}
	}
}

// P18.3

func TestASessionOpensAndStays(t *testing.T) {
	for within := range 5 {
		for seed := range uint64(40) {
			newLink(t, seed, within, false).run(t, 200)
			newLink(t, seed, within, true).run(t, 200)
		}
	}
}

// Some 8 ticks: where a word and its answer take four ticks together, it is open just then.
func TestASessionIsOpenBehindEightTicks(t *testing.T) {
	for begin := range 12 {
		s, l := made(t, 32, 1), session.NewListener()
		opening, opened := 0, 0
		for now := begin + 1; now <= begin+8; now++ {
			s.Tick(now)
			if len(s.Out()) > 0 && opening == 0 {
				opening = now
			}
			if opening > 0 && now == opening+2 {
				answers(t, l, 32, msg(api.MOpen, 1), now, msg(api.MOpened, 1))
			}
			if opening > 0 && now == opening+4 {
				s.Receive(msg(api.MOpened, 1))
				opened = now
			}
		}
		if opening == 0 || opened == 0 || !s.Open() {
			t.Fatalf("begun at %d: asked at %d, opened at %d, Open() = %v", begin, opening, opened, s.Open())
		}
	}
}

// A mux that is started again has a new speaker with the next boot, while the older one's words are still under way.
func TestASessionOpensAgainBehindACrash(t *testing.T) {
	for within := range 5 {
		for seed := range uint64(40) {
			l := newLink(t, seed, within, false)
			for boot := range 8 {
				l.speaker = made(t, 34, boot)
				l.run(t, l.random.IntN(30))
			}
			l.speaker = made(t, 34, 8)
			l.run(t, 60)
		}
	}
}

// Words that overtake one another may have the router go back to an older boot: it is mended within some ticks.
func TestASessionOpensAgainBehindAnything(t *testing.T) {
	for within := range 5 {
		for seed := range uint64(40) {
			l := newLink(t, seed, within, true)
			for boot := range 8 {
				l.speaker = made(t, 34, boot)
				for range l.random.IntN(20) {
					l.announces()
					l.tick()
				}
			}
			vips := l.announces()
			for range 60 {
				l.tick()
			}
			for range 60 {
				l.tick()
				isOpen(t, l.speaker, true)
				has(t, l.router, 34)
				l.knows(t, vips)
			}
		}
	}
}

// While no words come through for more than 12 ticks, the session ends; then it opens anew by itself.
func TestASessionBehindASilence(t *testing.T) {
	for seed := range uint64(40) {
		l := newLink(t, seed, 0, false)
		vips := l.announces()
		for range 20 {
			l.tick()
		}
		l.knows(t, vips)
		for range 17 {
			l.now++
			l.speaker.Tick(l.now)
			l.speaker.Out()
			l.router.Tick(l.now)
		}
		has(t, l.router)
		l.knows(t, nil)
		isOpen(t, l.speaker, true)
		// Its next word is answered by a close, the one behind that opens it.
		for range 8 {
			l.tick()
		}
		isOpen(t, l.speaker, true)
		has(t, l.router, 34)
		l.knows(t, vips)
	}
}
