package wheel_test

import (
	"cmp"
	"errors"
	"maps"
	"math"
	"math/rand/v2"
	"slices"
	"testing"

	"towpath/api"
	"towpath/wheel"
)

var (
	notSlots = []int{0, -1, -2, 1025, 1026, 2048, 1 << 20, 1 << 32, 1<<32 + 1, 1<<32 + 1024, math.MaxInt, math.MinInt, math.MinInt + 1}
	notTimes = []int{-1, -2, -1024, api.MaxTime + 1, api.MaxTime + 2, 2 * api.MaxTime, 1 << 62, math.MaxInt, math.MaxInt - 1, math.MinInt, math.MinInt + 1}
	farKeys  = []int{0, 1, -1, 2, -2, 1023, 1024, 1025, -1024, 1 << 32, 1<<32 + 1, -1 << 32, api.MaxTime, math.MaxInt, math.MaxInt - 1, math.MinInt, math.MinInt + 1}
)

// timed is a key with its time.
type timed struct{ key, at int }

func generator(seed uint64) *rand.Rand {
	return rand.New(rand.NewPCG(seed, 10))
}

// made is a wheel that there must be.
func made(t *testing.T, slots int) *wheel.Wheel {
	t.Helper()
	w, err := wheel.New(slots)
	if w == nil || err != nil {
		t.Fatalf("New(%d) = %v, %v", slots, w, err)
	}
	return w
}

func set(t *testing.T, w *wheel.Wheel, at int, keys ...int) {
	t.Helper()
	if err := w.Set(at, keys...); err != nil {
		t.Fatalf("Set(%d, %.60v) = %v", at, keys, err)
	}
}

func notSet(t *testing.T, w *wheel.Wheel, at int, keys ...int) {
	t.Helper()
	if err := w.Set(at, keys...); !errors.Is(err, api.ErrRange) {
		t.Fatalf("Set(%d, %v) = %v, want %v", at, keys, err, api.ErrRange)
	}
}

func cancelled(t *testing.T, w *wheel.Wheel, want int, keys ...int) {
	t.Helper()
	if got := w.Cancel(keys...); got != want {
		t.Fatalf("Cancel(%.60v) = %d, want %d", keys, got, want)
	}
}

func due(t *testing.T, w *wheel.Wheel, now int, want ...int) {
	t.Helper()
	if got := w.Due(now); !slices.Equal(got, want) {
		t.Fatalf("Due(%d) = %.200v, want %.200v", now, got, want)
	}
}

// stands asks for a key that is there.
func stands(t *testing.T, w *wheel.Wheel, key, want int) {
	t.Helper()
	if at, ok := w.At(key); at != want || !ok {
		t.Fatalf("At(%d) = %d, %v, want %d, true", key, at, ok, want)
	}
}

// misses asks for keys that aren't there.
func misses(t *testing.T, w *wheel.Wheel, keys ...int) {
	t.Helper()
	for _, key := range keys {
		if at, ok := w.At(key); at != 0 || ok {
			t.Fatalf("At(%d) = %d, %v, want 0, false", key, at, ok)
		}
	}
}

// counts asks for the least time of all, and for how many keys there are.
func counts(t *testing.T, w *wheel.Wheel, least, count int) {
	t.Helper()
	if at, ok := w.Next(); at != least || ok != (count > 0) {
		t.Fatalf("Next() = %d, %v, want %d, %v", at, ok, least, count > 0)
	}
	if got := w.Len(); got != count {
		t.Fatalf("Len() = %d, want %d", got, count)
	}
}

// holds asks all that can be asked of a wheel without a change of it: it has these keys and no others.
func holds(t *testing.T, w *wheel.Wheel, list ...timed) {
	t.Helper()
	least := 0
	for i, k := range list {
		stands(t, w, k.key, k.at)
		if i == 0 || k.at < least {
			least = k.at
		}
	}
	counts(t, w, least, len(list))
}

// holdsNone asks a wheel without keys for all things.
func holdsNone(t *testing.T, w *wheel.Wheel) {
	t.Helper()
	holds(t, w)
	misses(t, w, farKeys...)
	cancelled(t, w, 0)
	cancelled(t, w, 0, farKeys...)
	for _, now := range []int{0, 1, -1, api.MaxTime, math.MaxInt, math.MinInt} {
		due(t, w, now)
	}
	holds(t, w)
}

// P10.1

func TestExample(t *testing.T) {
	w := made(t, 8)
	set(t, w, 5, 1, 2)
	set(t, w, 3, 9)
	holds(t, w, timed{1, 5}, timed{2, 5}, timed{9, 3})
	due(t, w, 2)
	due(t, w, 4, 9)
	due(t, w, 100, 1, 2)
	due(t, w, 100)
	holdsNone(t, w)
}

func TestNewTakesAllCountsOfSlots(t *testing.T) {
	for slots := 1; slots <= api.MaxSlots; slots++ {
		w := made(t, slots)
		holds(t, w)
		set(t, w, slots, 7)
		holds(t, w, timed{7, slots})
	}
	holdsNone(t, made(t, 1))
	holdsNone(t, made(t, api.MaxSlots))
}

func TestNewRefusesOtherCounts(t *testing.T) {
	for _, slots := range notSlots {
		if w, err := wheel.New(slots); w != nil || !errors.Is(err, api.ErrRange) {
			t.Errorf("New(%d) = %v, %v, want nil, %v", slots, w, err, api.ErrRange)
		}
	}
}

func TestSetTakesAllTimes(t *testing.T) {
	times := []int{0, 1, 2, 7, 8, 9, 1023, 1024, 1025, 1<<31 - 1, 1 << 31, 1 << 32, api.MaxTime - 1, api.MaxTime}
	w := made(t, 8)
	var list []timed
	for key, at := range times {
		set(t, w, at, key)
		list = append(list, timed{key, at})
		holds(t, w, list...)
	}
	for key, at := range times {
		due(t, w, at-1)
		counts(t, w, at, len(times)-key)
		due(t, w, at, key)
		misses(t, w, key)
	}
	holdsNone(t, w)
}

func TestSetRefusesOtherTimes(t *testing.T) {
	w := made(t, 8)
	set(t, w, 5, 1, 2)
	for _, at := range notTimes {
		notSet(t, w, at)
		notSet(t, w, at, 1)
		notSet(t, w, at, 2, 3)
		notSet(t, w, at, 3, 3, 1)
		holds(t, w, timed{1, 5}, timed{2, 5})
		misses(t, w, 3)
	}
	due(t, w, math.MaxInt, 1, 2)
	for _, at := range notTimes {
		notSet(t, w, at, 3)
	}
	holdsNone(t, w)
}

func TestSetOfNoKeysSetsNone(t *testing.T) {
	w := made(t, 8)
	set(t, w, 3)
	holdsNone(t, w)
	set(t, w, 5, 1)
	set(t, w, 0)
	set(t, w, api.MaxTime, []int{}...)
	holds(t, w, timed{1, 5})
}

func TestAnyNumberIsAKey(t *testing.T) {
	w := made(t, 3)
	set(t, w, 6, farKeys...)
	var list []timed
	for _, key := range farKeys {
		list = append(list, timed{key, 6})
	}
	holds(t, w, list...)
	misses(t, w, 3, -3, 6, 1<<33)
	rising := slices.Sorted(slices.Values(farKeys))
	due(t, w, 5)
	due(t, w, 6, rising...)
	holdsNone(t, w)

	for i, key := range farKeys {
		set(t, w, i, key)
	}
	cancelled(t, w, 2, math.MinInt, 0, 3)
	cancelled(t, w, len(farKeys)-2, farKeys...)
	holdsNone(t, w)
}

func TestSetTakesTheOlderTimesPlace(t *testing.T) {
	w := made(t, 8)
	set(t, w, 5, 1, 2, 3)
	set(t, w, 9, 1)
	set(t, w, 2, 2)
	set(t, w, 5, 3)
	holds(t, w, timed{1, 9}, timed{2, 2}, timed{3, 5})
	due(t, w, 1)
	due(t, w, 4, 2)
	due(t, w, 8, 3)
	holds(t, w, timed{1, 9})
	set(t, w, 13, 1)
	due(t, w, 12)
	set(t, w, 21, 1)
	due(t, w, 20)
	due(t, w, 21, 1)
	holdsNone(t, w)
}

func TestAKeyThatStandsTwiceIsOne(t *testing.T) {
	w := made(t, 8)
	set(t, w, 5, 1, 2, 1, 1, 2)
	holds(t, w, timed{1, 5}, timed{2, 5})
	cancelled(t, w, 1, 1, 1, 1)
	holds(t, w, timed{2, 5})
	due(t, w, 5, 2)
	set(t, w, 7, 3, 3, 4)
	due(t, w, 7, 3, 4)
	holdsNone(t, w)
}

func TestCancelTellsHowManyWereThere(t *testing.T) {
	w := made(t, 8)
	set(t, w, 5, 1, 2, 3, 4)
	set(t, w, 0, 0, -1)
	cancelled(t, w, 0)
	cancelled(t, w, 0, 5, 6, -2)
	cancelled(t, w, 1, 0)
	cancelled(t, w, 0, 0)
	misses(t, w, 0)
	holds(t, w, timed{1, 5}, timed{2, 5}, timed{3, 5}, timed{4, 5}, timed{-1, 0})
	cancelled(t, w, 3, 4, 7, 2, 4, 2, -1, 7, -1)
	misses(t, w, 4, 2, -1)
	holds(t, w, timed{1, 5}, timed{3, 5})
	due(t, w, 100, 1, 3)
	cancelled(t, w, 0, 1, 3)
	holdsNone(t, w)
}

func TestTimeNoughtIsATime(t *testing.T) {
	w := made(t, 8)
	set(t, w, 0, 0)
	holds(t, w, timed{0, 0})
	due(t, w, -1)
	due(t, w, math.MinInt)
	holds(t, w, timed{0, 0})
	set(t, w, 4, 1)
	holds(t, w, timed{0, 0}, timed{1, 4})
	due(t, w, 0, 0)
	misses(t, w, 0)
	holds(t, w, timed{1, 4})
}

func TestDueIsByTimesThenByKeys(t *testing.T) {
	w := made(t, 4)
	set(t, w, 6, 5, -7, 30, 2)
	set(t, w, 2, 100, 40, -1)
	set(t, w, 7, -100, 1)
	set(t, w, 3, math.MaxInt, math.MinInt, 0)
	set(t, w, 1024, 8)
	due(t, w, 7, -1, 40, 100, math.MinInt, 0, math.MaxInt, -7, 2, 5, 30, -100, 1)
	holds(t, w, timed{8, 1024})
	due(t, w, math.MaxInt, 8)
	holdsNone(t, w)
}

func TestDueTakesWhatIsNotAboveNow(t *testing.T) {
	for now := -1; now <= 21; now++ {
		w := made(t, 8)
		for at := range 21 {
			set(t, w, at, 20-at)
		}
		var want []int
		var left []timed
		for at := range 21 {
			if at <= now {
				want = append(want, 20-at)
			} else {
				left = append(left, timed{20 - at, at})
			}
		}
		due(t, w, now, want...)
		misses(t, w, want...)
		holds(t, w, left...)
		due(t, w, now)
	}
}

// Now may be less than it was, and a time may be long gone when it is set.
func TestNowMayGoBack(t *testing.T) {
	w := made(t, 8)
	set(t, w, 50, 1)
	due(t, w, 100, 1)
	set(t, w, 3, 2)
	set(t, w, 99, 3)
	set(t, w, 100, 4)
	set(t, w, 101, 5)
	holds(t, w, timed{2, 3}, timed{3, 99}, timed{4, 100}, timed{5, 101})
	due(t, w, 2)
	due(t, w, 3, 2)
	due(t, w, 98)
	due(t, w, 100, 3, 4)
	due(t, w, 0)
	holds(t, w, timed{5, 101})
	due(t, w, math.MaxInt, 5)
	set(t, w, api.MaxTime, 6)
	due(t, w, math.MinInt)
	due(t, w, api.MaxTime-1)
	holds(t, w, timed{6, api.MaxTime})
	due(t, w, api.MaxTime, 6)
	holdsNone(t, w)
}

func TestNextFollowsEachChange(t *testing.T) {
	w := made(t, 8)
	set(t, w, 30, 1)
	counts(t, w, 30, 1)
	set(t, w, 40, 2)
	counts(t, w, 30, 2)
	set(t, w, 20, 3)
	counts(t, w, 20, 3)
	set(t, w, 35, 1)
	counts(t, w, 20, 3)
	cancelled(t, w, 1, 3)
	counts(t, w, 35, 2)
	set(t, w, 45, 1)
	counts(t, w, 40, 2)
	due(t, w, 44, 2)
	counts(t, w, 45, 1)
	set(t, w, api.MaxTime, 1)
	counts(t, w, api.MaxTime, 1)
	cancelled(t, w, 1, 1)
	counts(t, w, 0, 0)
}

func TestNilIsWithoutKeys(t *testing.T) {
	var w *wheel.Wheel
	holdsNone(t, w)
	for _, at := range append([]int{0, 1, 5, api.MaxTime}, notTimes...) {
		notSet(t, w, at)
		notSet(t, w, at, 1, 2)
	}
	holdsNone(t, w)
}

func TestWheelsAreApart(t *testing.T) {
	one, other := made(t, 8), made(t, 8)
	set(t, one, 5, 1, 2)
	holdsNone(t, other)
	set(t, other, 6, 2, 3)
	holds(t, one, timed{1, 5}, timed{2, 5})
	cancelled(t, other, 1, 2, 1)
	holds(t, one, timed{1, 5}, timed{2, 5})
	due(t, one, 9, 1, 2)
	holds(t, other, timed{3, 6})
}

func TestManyKeys(t *testing.T) {
	const many = 1 << 17
	w := made(t, 16)
	keys := generator(1).Perm(many)
	set(t, w, 3, keys...)
	var sooner, later []int
	for key := range many {
		if key%3 == 0 {
			sooner = append(sooner, key)
		} else {
			later = append(later, key)
		}
	}
	set(t, w, 2, sooner...)
	counts(t, w, 2, many)
	due(t, w, 1)
	due(t, w, 3, append(sooner, later...)...)
	holdsNone(t, w)
	set(t, w, 3, keys...)
	cancelled(t, w, many, append(keys, keys...)...)
	holdsNone(t, w)
}

// model is what the chapter says of a wheel, as a list in which each key is looked for.
type model []timed

func (m *model) place(key int) int {
	return slices.IndexFunc(*m, func(k timed) bool { return k.key == key })
}

func (m *model) set(at int, keys []int) {
	for _, key := range keys {
		m.cancel([]int{key})
		*m = append(*m, timed{key, at})
	}
}

func (m *model) cancel(keys []int) int {
	count := 0
	for _, key := range keys {
		if i := m.place(key); i >= 0 {
			*m = slices.Delete(*m, i, i+1)
			count++
		}
	}
	return count
}

func (m *model) due(now int) []int {
	slices.SortFunc(*m, func(a, b timed) int {
		return cmp.Or(cmp.Compare(a.at, b.at), cmp.Compare(a.key, b.key))
	})
	var keys []int
	for len(*m) > 0 && (*m)[0].at <= now {
		keys = append(keys, (*m)[0].key)
		*m = (*m)[1:]
	}
	return keys
}

func someKeys(g *rand.Rand) []int {
	var keys []int
	for range g.IntN(6) {
		key := g.IntN(60) - 30
		if g.IntN(10) == 0 {
			key = farKeys[g.IntN(len(farKeys))]
		}
		keys = append(keys, key)
	}
	return keys
}

// someTime is mostly a time near to what may be now; now and then a far one, or none.
func someTime(g *rand.Rand, now int) int {
	switch g.IntN(12) {
	case 0:
		return notTimes[g.IntN(len(notTimes))]
	case 1:
		return api.MaxTime - g.IntN(3)
	}
	return max(0, now+g.IntN(60)-10)
}

func isTime(at int) bool {
	return at >= 0 && at <= api.MaxTime
}

// stepAsTold holds one call that changes a wheel against the model; the answer is what now may be.
func stepAsTold(t *testing.T, w *wheel.Wheel, m *model, g *rand.Rand, now int) int {
	t.Helper()
	switch g.IntN(5) {
	case 0, 1:
		at, keys := someTime(g, now), someKeys(g)
		if !isTime(at) {
			notSet(t, w, at, keys...)
			return now
		}
		set(t, w, at, keys...)
		m.set(at, keys)
	case 2:
		keys := someKeys(g)
		cancelled(t, w, m.cancel(keys), keys...)
	case 3:
		now += g.IntN(30) - 5
		due(t, w, now, m.due(now)...)
	case 4:
		far := someTime(g, now)
		if g.IntN(4) > 0 {
			far = min(far, now)
		}
		due(t, w, far, m.due(far)...)
	}
	return now
}

func TestAnyOrderOfCalls(t *testing.T) {
	for i, slots := range []int{1, 2, 3, 8, 16, 60, 1000, 1024} {
		g := generator(uint64(100 + i))
		w := made(t, slots)
		var m model
		now := 0
		for range 4000 {
			now = stepAsTold(t, w, &m, g, now)
			holds(t, w, m...)
			for _, key := range someKeys(g) {
				if m.place(key) < 0 {
					misses(t, w, key)
				}
			}
		}
	}
}

// P10.2

// ledger is which keys are still to be due, and at which times.
type ledger struct {
	at map[int]int
}

// strike wants all that is due at now, and nothing else, to have been answered once.
func (l *ledger) strike(t *testing.T, now int, keys []int) {
	t.Helper()
	for _, key := range keys {
		at, waits := l.at[key]
		if !waits || at > now {
			t.Fatalf("Due(%d) answers the key %d of the time %d, %v", now, key, at, waits)
		}
		delete(l.at, key)
	}
	for key, at := range l.at {
		if at <= now {
			t.Fatalf("Due(%d) = %v without the key %d of the time %d", now, keys, key, at)
		}
	}
}

func TestEachKeyIsDueOnceAtItsTime(t *testing.T) {
	for _, slots := range []int{1, 7, 64, 1024} {
		g := generator(uint64(slots))
		w := made(t, slots)
		l := ledger{at: map[int]int{}}
		for now := range 2500 {
			for _, key := range g.Perm(400)[:g.IntN(6)] {
				at := now + g.IntN(1500)
				if g.IntN(20) == 0 {
					at = g.IntN(now + 1)
				}
				set(t, w, at, key)
				l.at[key] = at
			}
			for _, key := range g.Perm(400)[:g.IntN(3)] {
				w.Cancel(key)
				delete(l.at, key)
			}
			if g.IntN(3) > 0 {
				l.strike(t, now, w.Due(now))
			}
		}
		l.strike(t, 4000, w.Due(4000))
		if len(l.at) != 0 || w.Len() != 0 {
			t.Fatalf("%d keys were never due, and %d are still there", len(l.at), w.Len())
		}
	}
}

func TestAKeyIsDueAtTheFirstDueOnly(t *testing.T) {
	for _, at := range []int{0, 1, 2, 15, 16, 17, 1024, 1 << 20, api.MaxTime} {
		for _, behind := range []int{0, 1, 15, 16, 17, 1024, 1 << 40} {
			w := made(t, 16)
			set(t, w, at, 1)
			for _, early := range []int{math.MinInt, at - 1 - behind, at - 1} {
				due(t, w, early)
				stands(t, w, 1, at)
			}
			due(t, w, at+behind, 1)
			for _, again := range []int{at - 1, at, at + behind, at + behind + 1, at + behind + 16, math.MaxInt} {
				due(t, w, again)
			}
			holdsNone(t, w)
		}
	}
}

func TestAKeySetAnewIsDueAtItsNewTimeAlone(t *testing.T) {
	for _, second := range []int{0, 1, 9, 10, 11, 18, 1034, api.MaxTime} {
		w := made(t, 8)
		set(t, w, 10, 1)
		set(t, w, second, 1)
		due(t, w, second-1)
		due(t, w, second, 1)
		due(t, w, 10)
		due(t, w, math.MaxInt)
		holdsNone(t, w)
	}
}

func TestAKeyThatWasDueMayBeSetAgain(t *testing.T) {
	w := made(t, 8)
	for round := range 50 {
		set(t, w, 3*round, 1, 2)
		cancelled(t, w, 1, 2)
		due(t, w, 3*round-1)
		due(t, w, 3*round+1, 1)
		due(t, w, 3*round+2)
	}
	set(t, w, 3, 1)
	due(t, w, 2)
	due(t, w, 3, 1)
	holdsNone(t, w)
}

func TestACancelledKeyIsNeverDue(t *testing.T) {
	w := made(t, 8)
	set(t, w, 5, 1, 2, 3)
	cancelled(t, w, 1, 2)
	due(t, w, 5, 1, 3)
	set(t, w, 9, 1, 2, 3)
	set(t, w, 4, 2)
	cancelled(t, w, 2, 2, 3)
	due(t, w, math.MaxInt, 1)
	holdsNone(t, w)
}

// P10.3

// answers is all that a wheel answers to one row of calls.
func answers(t *testing.T, slots int, seed uint64) []int {
	t.Helper()
	g := generator(seed)
	w := made(t, slots)
	var all []int
	tell := func(n int, ok bool) {
		all = append(all, n)
		if ok {
			all = append(all, -1)
		}
	}
	now := 0
	for range 150 {
		at, keys := someTime(g, now), someKeys(g)
		tell(0, w.Set(at, keys...) == nil)
		tell(w.Cancel(g.IntN(60)-30, g.IntN(60)-30), false)
		tell(w.At(g.IntN(60) - 30))
		now += g.IntN(12) - 1
		keys = w.Due(now)
		tell(len(keys), false)
		all = append(all, keys...)
		tell(w.Next())
		tell(w.Len(), false)
	}
	return append(all, w.Due(math.MaxInt)...)
}

func TestTheNumberOfSlotsChangesNoAnswer(t *testing.T) {
	for seed := range uint64(3) {
		want := answers(t, 1, seed)
		for slots := 2; slots <= api.MaxSlots; slots++ {
			if got := answers(t, slots, seed); !slices.Equal(got, want) {
				t.Fatalf("%d slots answer otherwise than one: %.200v, want %.200v", slots, got, want)
			}
		}
	}
}

// tickedThrough wants keys at all small times, and at some near to whole rounds of the slots, each at its own tick.
func tickedThrough(t *testing.T, slots int) {
	t.Helper()
	w := made(t, slots)
	times := map[int]int{}
	for key := range 100 {
		times[key] = key
	}
	for round := 1; round <= 4; round++ {
		for off := -1; off <= 1; off++ {
			times[1000*round+off] = round*slots + off
		}
	}
	wants := map[int][]int{}
	for key, at := range times {
		set(t, w, at, key)
		wants[at] = append(wants[at], key)
	}
	left := len(times)
	for _, now := range slices.Sorted(maps.Keys(wants)) {
		counts(t, w, now, left)
		due(t, w, now-1)
		slices.Sort(wants[now])
		due(t, w, now, wants[now]...)
		left -= len(wants[now])
	}
	counts(t, w, 0, 0)
}

func TestEachNumberOfSlotsTicksAlike(t *testing.T) {
	for slots := 1; slots <= api.MaxSlots; slots++ {
		tickedThrough(t, slots)
	}
}

// Times that lie a whole round of the slots apart are as any others.
func TestTimesOfOneSlotAreApart(t *testing.T) {
	for _, slots := range []int{1, 2, 8, 1000, 1024} {
		w := made(t, slots)
		for round := range 5 {
			set(t, w, 3+(4-round)*slots, round, -round-1)
		}
		for round := 4; round >= 0; round-- {
			at := 3 + (4-round)*slots
			counts(t, w, at, 2*round+2)
			due(t, w, at-1)
			due(t, w, at, -round-1, round)
		}
		holdsNone(t, w)
	}
}

// P10.4

func TestWhatIsHandedInStays(t *testing.T) {
	row := []int{9, 3, 3, -5, 7, 1, 2}
	was := slices.Clone(row)
	w := made(t, 8)
	set(t, w, 5, row[:4]...)
	notSet(t, w, -1, row[:4]...)
	set(t, w, 6, row[:0]...)
	cancelled(t, w, 1, row[1:3]...)
	keys := w.Due(9)
	_ = append(keys, 11, 12)
	clear(keys)
	if !slices.Equal(row, was) {
		t.Errorf("what was handed in, %v, became %v", was, row)
	}
}

func TestWhatIsHandedInIsntKept(t *testing.T) {
	w := made(t, 8)
	row := []int{9, 3, 4}
	set(t, w, 5, row...)
	clear(row)
	holds(t, w, timed{9, 5}, timed{3, 5}, timed{4, 5})
	misses(t, w, 0)
	row = []int{3, 8}
	cancelled(t, w, 1, row...)
	row[0] = 4
	holds(t, w, timed{9, 5}, timed{4, 5})
	due(t, w, 5, 4, 9)
}

func TestAnswersAreNewMemory(t *testing.T) {
	w := made(t, 8)
	set(t, w, 5, 1, 2, 3)
	set(t, w, 7, 4, 5, 6)
	first := w.Due(5)
	second := w.Due(7)
	for i := range first {
		first[i] = -9
	}
	_ = append(first, -9, -9, -9)
	if !slices.Equal(second, []int{4, 5, 6}) {
		t.Errorf("Due(7) became %v", second)
	}
	set(t, w, 8, 1, 2)
	clear(second[:cap(second)])
	holds(t, w, timed{1, 8}, timed{2, 8})
	due(t, w, 8, 1, 2)
}

func TestAnswersOutliveWhatIsDoneThen(t *testing.T) {
	w := made(t, 8)
	set(t, w, 5, 1, 2, 3)
	set(t, w, 50, 4)
	first := w.Due(5)
	set(t, w, 6, 7, 8, 9)
	cancelled(t, w, 2, 4, 8)
	second := w.Due(10)
	set(t, w, 11, 1, 2, 3)
	due(t, w, 11, 1, 2, 3)
	if !slices.Equal(first, []int{1, 2, 3}) || !slices.Equal(second, []int{7, 9}) {
		t.Errorf("answers became %v and %v", first, second)
	}
}
