package session_test

import (
	"math"
	"slices"
	"testing"

	"towpath/api"
	"towpath/session"
)

// P18.1

func TestAnOpenIsAnswered(t *testing.T) {
	for _, mux := range muxes {
		for _, boot := range []int{0, 1, 1 << 32, lastTime - 1, lastTime} {
			for _, now := range []int{0, 1, 5, 1 << 32, lastTime} {
				l := session.NewListener()
				answers(t, l, mux, msg(api.MOpen, boot), now, msg(api.MOpened, boot))
				has(t, l, mux)
				announce(t, l, vipA)
				silent(t, l, mux, routes(boot, vipA), now)
				announce(t, l, vipA, mux)
				gone(t, l, now+12)
				gone(t, l, now+13, mux)
				has(t, l)
			}
		}
	}
}

func TestAnOpenBeginsAnew(t *testing.T) {
	for _, boot := range []int{3, 4, 5, 0, lastTime} {
		l := heard(t, 4, 10, vipA, vipB)
		answers(t, l, 32, msg(api.MOpen, boot), 20, msg(api.MOpened, boot))
		has(t, l, 32)
		announce(t, l, vipA)
		announce(t, l, vipB)
		gone(t, l, 32)
		silent(t, l, 32, msg(api.MKeep, boot), 20)
		announce(t, l, vipA)
		silent(t, l, 32, routes(boot, vipB), 20)
		announce(t, l, vipA)
		announce(t, l, vipB, 32)
		if boot != 4 {
			answers(t, l, 32, routes(4, vipA), 20, msg(api.MClose, 4))
		}
	}
}

func TestRoutesTakeThePlaceOfOlderOnes(t *testing.T) {
	l := heard(t, 4, 10, vipA, vipB)
	silent(t, l, 32, routes(4, vipB, vipC), 10)
	announce(t, l, vipA)
	announce(t, l, vipB, 32)
	announce(t, l, vipC, 32)
	silent(t, l, 32, msg(api.MKeep, 4), 10)
	announce(t, l, vipB, 32)
	announce(t, l, vipC, 32)
	silent(t, l, 32, routes(4), 10)
	has(t, l, 32)
	for _, vip := range slices.Concat(allVips, notVips) {
		announce(t, l, vip)
	}
}

func TestRoutesOfAllLengths(t *testing.T) {
	for count := range 50 {
		l := heard(t, 4, 10, vipC)
		silent(t, l, 32, routes(4, row(count)...), 20)
		if count > 39 {
			announce(t, l, vipC, 32)
			for _, vip := range row(count) {
				announce(t, l, vip)
			}
			gone(t, l, 23, 32)
			continue
		}
		announce(t, l, vipC)
		for i, vip := range row(50) {
			if i < count {
				announce(t, l, vip, 32)
			} else {
				announce(t, l, vip)
			}
		}
		gone(t, l, 32)
		gone(t, l, 33, 32)
	}
	l := heard(t, 4, 10, vipC)
	silent(t, l, 32, routes(4, allVips...), 10)
	for _, vip := range allVips {
		announce(t, l, vip, 32)
	}
	for _, vip := range notVips {
		announce(t, l, vip)
	}
}

func TestWordsOfNoSessionAreAnsweredByAClose(t *testing.T) {
	for _, boot := range []int{0, 3, lastTime} {
		for _, m := range []api.Msg{msg(api.MKeep, boot), routes(boot), routes(boot, vipA), routes(boot, row(39)...)} {
			l := session.NewListener()
			answers(t, l, 32, m, 7, msg(api.MClose, boot))
			has(t, l)
			announce(t, l, vipA)

			answers(t, l, 33, msg(api.MOpen, boot), 7, msg(api.MOpened, boot))
			answers(t, l, 32, m, 7, msg(api.MClose, boot))
			has(t, l, 33)
			announce(t, l, vipA)

			answers(t, l, 32, msg(api.MOpen, boot), 7, msg(api.MOpened, boot))
			silent(t, l, 32, m, 8)
			gone(t, l, 20, 33)
			gone(t, l, 21, 32)
			answers(t, l, 32, m, 21, msg(api.MClose, boot))
			has(t, l)
		}
	}
}

// The answer's boot is the word's own; the session is as it was.
func TestWordsOfAnotherBootAreAnsweredByAClose(t *testing.T) {
	for _, boot := range []int{0, 3, 5, 1<<32 + 4, lastTime} {
		for _, m := range []api.Msg{msg(api.MKeep, boot), routes(boot), routes(boot, vipB)} {
			l := heard(t, 4, 10, vipA)
			answers(t, l, 32, m, 20, msg(api.MClose, boot))
			has(t, l, 32)
			announce(t, l, vipA, 32)
			announce(t, l, vipB)
			silent(t, l, 32, msg(api.MKeep, 4), 11)
			answers(t, l, 32, m, 20, msg(api.MClose, boot))
			gone(t, l, 23)
			gone(t, l, 24, 32)
		}
	}
}

func TestEachWordIsHeard(t *testing.T) {
	for _, m := range []api.Msg{msg(api.MOpen, 4), msg(api.MKeep, 4), routes(4), routes(4, vipA), routes(4, row(39)...)} {
		l := heard(t, 4, 10)
		l.Receive(32, m, 15)
		gone(t, l, 23)
		gone(t, l, 27)
		gone(t, l, 28, 32)

		// Times may fall: what counts is the last word.
		l = heard(t, 4, 10)
		l.Receive(32, m, 5)
		gone(t, l, 17)
		gone(t, l, 18, 32)
	}
}

// notForListeners are messages that do nothing at a listener.
func notForListeners() []api.Msg {
	list := []api.Msg{{}, msg(api.MOpen), msg(api.MRoutes), msg(api.MKeep)}
	for _, kind := range []int{api.MOpen, api.MRoutes, api.MKeep} {
		for _, boot := range notTimes {
			list = append(list, msg(kind, boot), msg(kind, boot, int(vipB)))
		}
	}
	for _, kind := range []int{api.MOpen, api.MKeep} {
		list = append(list, msg(kind, 4, 4), msg(kind, 4, 0), msg(kind, 4, int(vipA)), msg(kind, 4, int(vipA), int(vipB)), msg(kind, make([]int, 41)...), msg(kind, make([]int, 1<<16)...))
	}
	a, b, c := int(vipA), int(vipB), int(vipC)
	for _, nums := range [][]int{
		{b, a}, {b, b}, {a, c, b}, {a, b, b}, {a, a, b}, {c, b, a}, {a, b, c, a},
		{-1}, {0}, {-a}, {1<<32 + b}, {-1<<32 + b}, {1 << 32}, {b, 1<<32 + c}, {1<<32 + a, b}, {math.MaxInt}, {math.MinInt}, {math.MinInt + b}, {b, math.MaxInt}, {math.MinInt, b},
		make([]int, 40), make([]int, 1<<16),
	} {
		list = append(list, msg(api.MRoutes, append([]int{4}, nums...)...))
	}
	for _, vip := range notVips {
		list = append(list, routes(4, vip))
		vips := []api.Addr{vip, vipB}
		slices.Sort(vips)
		list = append(list, routes(4, vips...))
	}
	for _, count := range []int{40, 41, 1 << 16} {
		list = append(list, routes(4, row(count)...))
	}
	for kind := -3; kind < 300; kind++ {
		if kind != api.MOpen && kind != api.MRoutes && kind != api.MKeep {
			list = append(list, msg(kind), msg(kind, 4), msg(kind, 5), msg(kind, 4, b))
		}
	}
	for _, kind := range []int{math.MaxInt, math.MinInt, 256 + api.MOpen, 256 + api.MRoutes, 256 + api.MKeep, 1<<32 + api.MOpen, 1<<32 + api.MKeep} {
		list = append(list, msg(kind), msg(kind, 4), msg(kind, 5))
	}
	return list
}

func TestOtherWordsDoNothingAtAListener(t *testing.T) {
	for _, m := range notForListeners() {
		l := session.NewListener()
		silent(t, l, 32, m, 20)
		has(t, l)

		l = heard(t, 4, 10, vipA)
		silent(t, l, 32, m, 20)
		silent(t, l, 33, m, 20)
		has(t, l, 32)
		announce(t, l, vipA, 32)
		announce(t, l, vipB)
		announce(t, l, vipC)
		gone(t, l, 22)
		gone(t, l, 23, 32)
	}
}

func TestWordsFromOthersAndAtOtherTimesDoNothing(t *testing.T) {
	words := []api.Msg{msg(api.MOpen, 4), msg(api.MOpen, 5), msg(api.MKeep, 4), msg(api.MKeep, 5), routes(4), routes(4, vipB), routes(5, vipB)}
	for _, m := range words {
		l := heard(t, 4, 10, vipA)
		for _, from := range notMuxes {
			silent(t, l, from, m, 20)
		}
		for _, now := range notTimes {
			silent(t, l, 32, m, now)
			silent(t, l, 33, m, now)
		}
		has(t, l, 32)
		announce(t, l, vipA, 32)
		announce(t, l, vipB)
		gone(t, l, 22)
		gone(t, l, 23, 32)
	}
}

// The chapter says nothing of a word's Data.
func TestDataChangesNothingAtAListener(t *testing.T) {
	l := session.NewListener()
	answers(t, l, 32, api.Msg{Kind: api.MOpen, Nums: []int{4}, Data: []byte("data")}, 0, msg(api.MOpened, 4))
	silent(t, l, 32, api.Msg{Kind: api.MRoutes, Nums: []int{4, int(vipA)}, Data: []byte("data")}, 0)
	announce(t, l, vipA, 32)
	silent(t, l, 32, api.Msg{Kind: api.MKeep, Nums: []int{4}, Data: []byte("data")}, 5)
	answers(t, l, 32, api.Msg{Kind: api.MKeep, Nums: []int{5}, Data: []byte("data")}, 9, msg(api.MClose, 5))
	gone(t, l, 17)
	gone(t, l, 18, 32)
}

func TestSessionsEndBehindTwelveTicks(t *testing.T) {
	for _, at := range []int{0, 1, 12, 13, 100, 1 << 32, lastTime - 13, lastTime - 12, lastTime} {
		l := heard(t, 4, at, vipA)
		for _, now := range []int{at, at + 11, at + 12, at - 1, at - 12, at - 13, at - 14, 0, -1, -13, -lastTime, math.MinInt, math.MinInt + 1, math.MinInt + 12, math.MinInt + at} {
			gone(t, l, now)
			announce(t, l, vipA, 32)
		}
		gone(t, l, at+13, 32)
		gone(t, l, at+13)
		announce(t, l, vipA)
		has(t, l)
		answers(t, l, 32, routes(4, vipA), at, msg(api.MClose, 4))
	}
}

// The chapter names no bounds of the times that a listener ticks at.
func TestTicksOfAllTimes(t *testing.T) {
	for _, now := range []int{13, lastTime, lastTime + 1, lastTime + 13, 1 << 62, math.MaxInt - 12, math.MaxInt} {
		l := heard(t, 4, 0, vipA)
		gone(t, l, now, 32)
	}
	for _, now := range []int{lastTime + 13, 1 << 62, math.MaxInt - 12, math.MaxInt} {
		l := heard(t, 4, lastTime, vipA)
		gone(t, l, now, 32)
	}
}

func TestEachSessionEndsByItself(t *testing.T) {
	l := session.NewListener()
	for i, mux := range []int{35, 39, 32, 37} {
		answers(t, l, mux, msg(api.MOpen, i), 10*i, msg(api.MOpened, i))
		silent(t, l, mux, routes(i, vipA), 10*i)
	}
	has(t, l, 32, 35, 37, 39)
	announce(t, l, vipA, 32, 35, 37, 39)
	gone(t, l, 12)
	gone(t, l, 13, 35)
	announce(t, l, vipA, 32, 37, 39)
	silent(t, l, 37, msg(api.MKeep, 3), 5)
	gone(t, l, 33, 32, 37, 39)
	has(t, l)
	announce(t, l, vipA)
}

func TestMuxesRise(t *testing.T) {
	for seed := range uint64(50) {
		random := generator(seed)
		l := session.NewListener()
		var all, announcing []int
		for _, i := range random.Perm(8) {
			if random.IntN(4) == 0 {
				continue
			}
			mux := 32 + i
			all = append(all, mux)
			answers(t, l, mux, msg(api.MOpen, i), i, msg(api.MOpened, i))
			if random.IntN(2) == 0 {
				announcing = append(announcing, mux)
				silent(t, l, mux, routes(i, vipA, vipB), i)
			}
		}
		slices.Sort(all)
		slices.Sort(announcing)
		has(t, l, all...)
		announce(t, l, vipA, announcing...)
		announce(t, l, vipB, announcing...)
		announce(t, l, vipC)
		gone(t, l, 50, all...)
		has(t, l)
	}
}

func TestANilListener(t *testing.T) {
	var l *session.Listener
	for _, m := range append(notForListeners(), msg(api.MOpen, 0), msg(api.MKeep, 0), routes(0, vipA)) {
		silent(t, l, 32, m, 0)
	}
	for _, now := range someTimes() {
		gone(t, l, now)
	}
	has(t, l)
	announce(t, l, vipA)
	announce(t, l, 0)
}

func TestListenersAreApart(t *testing.T) {
	a, b := heard(t, 4, 10, vipA), heard(t, 5, 20, vipB)
	announce(t, a, vipA, 32)
	announce(t, a, vipB)
	announce(t, b, vipA)
	announce(t, b, vipB, 32)
	gone(t, a, 23, 32)
	has(t, a)
	has(t, b, 32)
	answers(t, a, 32, msg(api.MKeep, 5), 23, msg(api.MClose, 5))
	silent(t, b, 32, msg(api.MKeep, 5), 23)
	if c := session.NewListener(); len(c.Sessions()) > 0 {
		t.Fatalf("a new listener has the sessions %v", c.Sessions())
	}
}

// book is a listener kept another way: all that was done, from which what it must hold is worked out anew.
type book []page

// page is a word of a mux at a time, or, of no mux, a tick.
type page struct {
	mux  int
	word api.Msg
	now  int
}

// session is the place of the word that opened a mux's session, and whether it is there still.
func (b book) session(mux int) (int, bool) {
	for i := len(b) - 1; i >= 0; i-- {
		if b[i].mux == mux && b[i].word.Kind == 10 && takes(b[i]) {
			return i, !b.ended(i)
		}
	}
	return 0, false
}

// ended tells whether a tick found the last word of a session too old, ahead of it.
func (b book) ended(start int) bool {
	last := b[start].now
	for _, p := range b[start+1:] {
		switch {
		case p.mux == 0 && p.now-last > 12:
			return true
		case b.isOf(p, start):
			last = p.now
		}
	}
	return false
}

// isOf tells whether a page is a word of the session that was opened at a place.
func (b book) isOf(p page, start int) bool {
	return p.mux == b[start].mux && takes(p) && p.word.Nums[0] == b[start].word.Nums[0]
}

// vips are what a mux announces.
func (b book) vips(mux int) []int {
	start, there := b.session(mux)
	if !there {
		return nil
	}
	var vips []int
	for _, p := range b[start+1:] {
		if b.isOf(p, start) && p.word.Kind == 12 {
			vips = p.word.Nums[1:]
		}
	}
	return vips
}

func (b book) sessions() []int {
	var list []int
	for _, mux := range muxes {
		if _, there := b.session(mux); there {
			list = append(list, mux)
		}
	}
	return list
}

func (b book) announcing(vip api.Addr) []int {
	var list []int
	for _, mux := range muxes {
		if slices.Contains(b.vips(mux), int(vip)) {
			list = append(list, mux)
		}
	}
	return list
}

// answer is what the last page, a word, is answered; false, if nothing.
func (b book) answer() (api.Msg, bool) {
	before, p := b[:len(b)-1], b[len(b)-1]
	if !takes(p) {
		return api.Msg{}, false
	}
	boot := p.word.Nums[0]
	if p.word.Kind == 10 {
		return msg(11, boot), true
	}
	if start, there := before.session(p.mux); there && before.isOf(p, start) {
		return api.Msg{}, false
	}
	return msg(14, boot), true
}

// takes tells whether a word is in form, and from a mux, at a time.
func takes(p page) bool {
	m := p.word
	if !slices.Contains(muxes, p.mux) || p.now < 0 || p.now > lastTime || len(m.Nums) == 0 || m.Nums[0] < 0 || m.Nums[0] > lastTime {
		return false
	}
	switch m.Kind {
	case 10, 13:
		return len(m.Nums) == 1
	case 12:
		return len(m.Nums) <= 40 && rise(m.Nums[1:])
	}
	return false
}

// rise tells whether numbers are vips' and rise.
func rise(nums []int) bool {
	last := 0
	for _, n := range nums {
		first := n >> 24
		if n <= last || first < 1 || first == 10 || first == 127 || first > 223 {
			return false
		}
		last = n
	}
	return true
}

// anyPage is a tick or a word, in form or not, at a time not far from another one.
func anyPage(random interface{ IntN(int) int }, about int) page {
	now := about + random.IntN(9) - 2
	if random.IntN(4) == 0 {
		return page{now: now}
	}
	p := page{mux: 32 + random.IntN(3), now: now, word: msg(10+random.IntN(5), random.IntN(2))}
	switch {
	case p.word.Kind == api.MRoutes:
		for _, vip := range allVips {
			if random.IntN(4) == 0 {
				p.word.Nums = append(p.word.Nums, int(vip))
			}
		}
	case random.IntN(10) == 0:
		p.word.Nums = append(p.word.Nums, 1)
	}
	switch random.IntN(30) {
	case 0:
		p.mux = notMuxes[1+random.IntN(len(notMuxes)-1)]
	case 1:
		p.now = notTimes[random.IntN(len(notTimes))]
	case 2:
		p.word.Nums[0] = notTimes[random.IntN(len(notTimes))]
	case 3:
		slices.Reverse(p.word.Nums[1:])
	case 4:
		p.word.Nums = append(p.word.Nums, int(notVips[random.IntN(len(notVips))]))
	case 5:
		p.word.Nums = nil
	}
	return p
}

// turn does what a page says, and wants the listener to answer as the book does.
func turn(t *testing.T, l *session.Listener, b book, p page) book {
	t.Helper()
	before := b.sessions()
	b = append(b, p)
	if p.mux == 0 {
		after := b.sessions()
		gone(t, l, p.now, slices.DeleteFunc(before, func(mux int) bool { return slices.Contains(after, mux) })...)
	} else if want, ok := b.answer(); ok {
		answers(t, l, p.mux, p.word, p.now, want)
	} else {
		silent(t, l, p.mux, p.word, p.now)
	}
	has(t, l, b.sessions()...)
	for _, vip := range allVips {
		announce(t, l, vip, b.announcing(vip)...)
	}
	return b
}

func TestAnyOrderOfAListenersCalls(t *testing.T) {
	for seed := range uint64(300) {
		random := generator(seed)
		l, b := session.NewListener(), book(nil)
		now := random.IntN(30)
		for range 60 {
			p := anyPage(random, now)
			if p.mux == 0 || takes(p) {
				now = p.now
			}
			b = turn(t, l, b, p)
		}
	}
}

// P18.2

// A mux is among those of a vip just from the word that has the vip on, to the first that hasn't, or a new session, or the tick that finds it silent for too long.
func TestAMuxAnnouncesWhatItSaidLast(t *testing.T) {
	l := session.NewListener()
	announce(t, l, vipA)
	silent(t, l, 32, routes(-1, vipA), 1)
	answers(t, l, 32, routes(0, vipA), 1, msg(api.MClose, 0))
	announce(t, l, vipA)
	answers(t, l, 32, msg(api.MOpen, 0), 1, msg(api.MOpened, 0))
	announce(t, l, vipA)
	silent(t, l, 32, routes(0, vipA, vipB), 2)
	announce(t, l, vipA, 32)
	announce(t, l, vipB, 32)
	announce(t, l, vipC)
	silent(t, l, 32, routes(0, vipB), 3)
	announce(t, l, vipA)
	announce(t, l, vipB, 32)
	answers(t, l, 32, routes(1, vipA), 4, msg(api.MClose, 1))
	silent(t, l, 32, msg(api.MClose, 0), 4)
	announce(t, l, vipA)
	announce(t, l, vipB, 32)
	answers(t, l, 32, msg(api.MOpen, 0), 5, msg(api.MOpened, 0))
	announce(t, l, vipB)
	silent(t, l, 32, routes(0, vipA), 6)
	gone(t, l, 18)
	announce(t, l, vipA, 32)
	gone(t, l, 19, 32)
	announce(t, l, vipA)
}

func TestAMuxThatIsHeardStays(t *testing.T) {
	for _, m := range []api.Msg{msg(api.MKeep, 3), routes(3, vipA)} {
		l := heard(t, 3, 0, vipA)
		for now := 1; now <= 12*20; now++ {
			gone(t, l, now)
			announce(t, l, vipA, 32)
			if now%12 == 0 {
				silent(t, l, 32, m, now)
			}
		}
		for now := 241; now <= 252; now++ {
			gone(t, l, now)
			announce(t, l, vipA, 32)
		}
		gone(t, l, 253, 32)
		announce(t, l, vipA)
		// Without a session its words bring it back no more.
		answers(t, l, 32, m, 253, msg(api.MClose, 3))
		announce(t, l, vipA)
	}
}

// Times rise here, and each is ticked, as in a cloud.
func TestMuxesOfAVipByTheirWords(t *testing.T) {
	for seed := range uint64(100) {
		random := generator(seed)
		l, b := session.NewListener(), book(nil)
		for now := range 80 {
			b = turn(t, l, b, page{now: now})
			for range random.IntN(3) * random.IntN(2) {
				p := page{mux: 32 + random.IntN(2), now: now, word: msg([]int{api.MOpen, api.MKeep, api.MRoutes, api.MRoutes}[random.IntN(4)], random.IntN(5)/4)}
				if p.word.Kind == api.MRoutes {
					p.word = routes(p.word.Nums[0], [][]api.Addr{nil, {vipA}, {vipB}, {vipA, vipB}}[random.IntN(4)]...)
				}
				b = turn(t, l, b, p)
			}
		}
	}
}
