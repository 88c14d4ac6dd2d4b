package dht_test

import (
	"fmt"
	"math/rand/v2"
	"slices"
	"testing"

	"towpath/addr"
	"towpath/api"
	"towpath/dht"
)

// ledger is a Dht kept another way: what each flow's record says, who waits for what, and apart from that the order of the puts.
type ledger struct {
	node, boot, muxes, room int
	says                    map[api.Flow]said
	waits                   map[api.Flow]delay
	puts                    []api.Flow
	tasks                   int

	posts   []api.Post
	answers []api.Bound
	notes   []api.Saw
}

type said struct {
	dip   api.Addr
	epoch int
	sure  bool
}

type delay struct {
	task, left int
	who        [][2]int
}

func newLedger(node, boot, muxes, room int) *ledger {
	return &ledger{node: node, boot: boot, muxes: muxes, room: room, says: map[api.Flow]said{}, waits: map[api.Flow]delay{}}
}

// isIn tells whether a flow is in form, by the chapter's words.
func isIn(f api.Flow) bool {
	return (f.Proto == 6 || f.Proto == 17) && f.SrcPort >= 0 && f.SrcPort < 65536 && f.DstPort >= 0 && f.DstPort < 65536
}

// others is the owners but the ledger's own mux, and whether that is one of them.
func (l *ledger) others(f api.Flow) ([]int, bool) {
	owners := keepers(f, l.muxes)
	left := slices.DeleteFunc(slices.Clone(owners), func(mux int) bool { return mux == l.node })
	return left, len(left) < len(owners)
}

func (l *ledger) put(f api.Flow, s said) bool {
	if _, known := l.says[f]; !known && len(l.says) >= l.room {
		at := slices.IndexFunc(l.puts, func(g api.Flow) bool {
			_, waits := l.waits[g]
			return l.says[g].sure && !waits
		})
		if at < 0 {
			return false
		}
		l.notes = append(l.notes, evicted(l.node, l.says[l.puts[at]].dip, l.puts[at]))
		delete(l.says, l.puts[at])
		l.puts = slices.Delete(l.puts, at, at+1)
	}
	l.puts = append(slices.DeleteFunc(l.puts, func(g api.Flow) bool { return g == f }), f)
	l.says[f] = s
	return true
}

func (l *ledger) answer(who [2]int, f api.Flow, sure bool) {
	s, n := l.says[f], 0
	if sure {
		n = 1
	}
	if who[0] == l.node {
		l.answers = append(l.answers, own(who[0], who[1], f, s.dip, s.epoch, sure))
	} else {
		l.posts = append(l.posts, bound(who[0], who[1], f, s.dip, s.epoch, n))
	}
}

func (l *ledger) end(f api.Flow, sure bool) {
	s, w := l.says[f], l.waits[f]
	s.sure = true
	l.says[f] = s
	delete(l.waits, f)
	for _, who := range w.who {
		l.answer(who, f, sure)
	}
}

func (l *ledger) bind(from, task int, f api.Flow, dip api.Addr, epoch int, old api.Addr) {
	if from < 32 || from >= 32+l.muxes || !isIn(f) {
		return
	}
	others, mine := l.others(f)
	if !mine {
		return
	}
	have, known := l.says[f]
	w, waits := l.waits[f]
	fresh := 1
	if known {
		fresh = 0
		if old == 0 || old != have.dip || epoch <= have.epoch {
			if waits {
				w.who = append(w.who, [2]int{from, task})
				l.waits[f] = w
			} else {
				l.answer([2]int{from, task}, f, true)
			}
			return
		}
	}
	if !l.put(f, said{dip: dip, epoch: epoch, sure: len(others) == 0}) {
		return
	}
	if len(others) == 0 {
		l.answer([2]int{from, task}, f, true)
		return
	}
	l.tasks++
	l.waits[f] = delay{task: l.boot*(1<<20) + l.tasks, left: patience, who: append(w.who, [2]int{from, task})}
	l.posts = append(l.posts, post(others[0], mCopy(l.waits[f].task, f, dip, epoch, fresh)))
}

// copied takes a copy, or what is said of one, whose numbers are in order.
func (l *ledger) copied(from int, isCopy bool, task int, f api.Flow, dip api.Addr, epoch, fresh int) {
	others, mine := l.others(f)
	if !isIn(f) || !mine || !slices.Equal(others, []int{from}) {
		return
	}
	have, known := l.says[f]
	if !isCopy {
		if w, waits := l.waits[f]; waits && w.task == task {
			l.says[f] = said{dip: dip, epoch: epoch}
			l.end(f, true)
		}
		return
	}
	var stays bool
	switch {
	case !known:
	case fresh == 1:
		stays = have.sure || keepers(f, l.muxes)[0] == l.node
	case have.epoch == epoch:
		stays = have.dip != dip && have.sure
	default:
		stays = have.epoch > epoch
	}
	if stays || l.put(f, said{dip: dip, epoch: epoch, sure: true}) {
		l.posts = append(l.posts, post(from, mCopied(task, f, l.says[f].dip, l.says[f].epoch)))
	}
}

func (l *ledger) tick() {
	var over []api.Flow
	for _, f := range l.puts {
		w, waits := l.waits[f]
		if !waits {
			continue
		}
		w.left--
		l.waits[f] = w
		if w.left == 0 {
			over = append(over, f)
		}
	}
	slices.SortFunc(over, func(a, b api.Flow) int {
		if addr.Less(a, b) {
			return -1
		}
		return 1
	})
	for _, f := range over {
		l.notes = append(l.notes, lost(l.node, l.says[f].dip, f))
		l.end(f, false)
	}
}

// both is a Dht and its ledger, which are told the same.
type both struct {
	t      *testing.T
	random *rand.Rand
	d      *dht.Dht
	l      *ledger
	flows  []api.Flow
	did    []string
}

func newBoth(t *testing.T, random *rand.Rand) *both {
	t.Helper()
	muxes := 1 + random.IntN(4)
	if random.IntN(8) == 0 {
		muxes = 8
	}
	b := &both{t: t, random: random}
	node, boot, room := 32+random.IntN(muxes), random.IntN(3), random.IntN(6)
	for len(b.flows) < 8 {
		f := tcp(random.IntN(200))
		if _, mine := newLedger(node, boot, muxes, room).others(f); mine || random.IntN(20) == 0 {
			f.Proto = []int{6, 6, 6, 17}[random.IntN(4)]
			b.flows = append(b.flows, f)
		}
	}
	b.d, b.l = made(t, node, boot, muxes, room), newLedger(node, boot, muxes, room)
	return b
}

func (b *both) from() int {
	if b.random.IntN(40) == 0 {
		return []int{31, 32 + b.l.muxes, 0, 48, 16}[b.random.IntN(5)]
	}
	return 32 + b.random.IntN(b.l.muxes)
}

// flow is one of a few, seldom one that isn't in form.
func (b *both) flow() api.Flow {
	if b.random.IntN(60) == 0 {
		return api.Flow{Proto: 7, SrcPort: 1}
	}
	return b.flows[b.random.IntN(len(b.flows))]
}

func (b *both) dip() api.Addr {
	return dipA + api.Addr(b.random.IntN(3))
}

// bind is a bind of any mux, whose old dip is often the record's.
func (b *both) bind() {
	from, task, f, dip, epoch, old := b.from(), b.random.IntN(100), b.flow(), b.dip(), b.random.IntN(6), api.Addr(0)
	switch b.random.IntN(4) {
	case 0:
		old = b.dip()
	case 1:
		old = b.l.says[f].dip
	}
	b.did = append(b.did, fmt.Sprint("bind ", from, task, f, dip, epoch, old))
	if b.random.IntN(2) == 0 {
		b.d.Bind(from, task, f, dip, epoch, old)
	} else {
		b.d.Receive(from, mBind(task, f, dip, epoch, old))
	}
	b.l.bind(from, task, f, dip, epoch, old)
}

// hear is a word of a mux, mostly of the other owner.
func (b *both) hear() {
	from, f := b.from(), b.flow()
	if others, mine := b.l.others(f); mine && len(others) > 0 && b.random.IntN(8) > 0 {
		from = others[0]
	}
	task, dip, epoch, fresh := b.random.IntN(100), b.dip(), b.random.IntN(6), b.random.IntN(2)
	isCopy := b.random.IntN(2) == 0
	if have, known := b.l.says[f]; known && b.random.IntN(3) > 0 {
		epoch = have.epoch + b.random.IntN(3) - 1
	}
	if w, waits := b.l.waits[f]; !isCopy && waits && b.random.IntN(3) > 0 {
		task = w.task
	}
	b.did = append(b.did, fmt.Sprint("hear ", from, isCopy, task, f, dip, epoch, fresh))
	m := mCopied(task, f, dip, epoch)
	if isCopy {
		m = mCopy(task, f, dip, epoch, fresh)
	}
	b.d.Receive(from, m)
	b.l.copied(from, isCopy, task, f, dip, epoch, fresh)
}

func (b *both) tick() {
	b.did = append(b.did, "tick")
	b.d.Tick()
	b.l.tick()
}

// agree holds all that can be asked of a Dht against the ledger.
func (b *both) agree() {
	b.t.Helper()
	defer func() {
		if b.t.Failed() {
			b.t.Logf("mux %d of %d, boot %d, room %d: %v", b.l.node, b.l.muxes, b.l.boot, b.l.room, b.did)
		}
	}()
	counts(b.t, b.d, len(b.l.says))
	for _, f := range b.flows {
		if s, known := b.l.says[f]; known {
			has(b.t, b.d, f, s.dip, s.epoch)
		} else {
			misses(b.t, b.d, f)
		}
	}
	// Now and then what is to be told is left till later.
	if b.random.IntN(3) == 0 {
		posted(b.t, b.d, b.l.posts...)
		b.l.posts = nil
	}
	if b.random.IntN(3) == 0 {
		answered(b.t, b.d, b.l.answers...)
		b.l.answers = nil
	}
	if b.random.IntN(3) == 0 {
		noted(b.t, b.d, b.l.notes...)
		b.l.notes = nil
	}
}

// P19.1

func TestAnyCallsInAnyOrder(t *testing.T) {
	for seed := range uint64(600) {
		random := generator(seed)
		b := newBoth(t, random)
		for range 250 {
			switch at := random.IntN(10); {
			case at < 5:
				b.bind()
			case at < 9:
				b.hear()
			default:
				b.tick()
			}
			b.agree()
		}
	}
}
