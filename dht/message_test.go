package dht_test

import (
	"math"
	"slices"
	"testing"

	"towpath/api"
)

// P19.1: MCopy

func TestACopyOfNoRecordIsPut(t *testing.T) {
	for _, c := range [][2]int{{32, 33}, {33, 32}} {
		f := owned(t, 1, 2, c[0], c[1])[0]
		for i, node := range c {
			for fresh := range 2 {
				for _, n := range []int{0, 1, 3, -1, 1 << 40, math.MaxInt, math.MinInt} {
					for _, dip := range []api.Addr{0, dipA, math.MaxUint32} {
						d := made(t, node, 0, 2, 8)
						d.Receive(c[1-i], mCopy(n, f, dip, n, fresh))
						posted(t, d, post(c[1-i], mCopied(n, f, dip, n)))
						quiet(t, d)
						has(t, d, f, dip, n)
						counts(t, d, 1)
						// It is sure, and waits for nothing.
						d.Bind(node, 5, f, dipB, 9, 0)
						answered(t, d, own(node, 5, f, dip, n, true))
						for range 5 {
							d.Tick()
						}
						quiet(t, d)
					}
				}
			}
		}
	}
}

// The rules by which a record stays: whether it is sure, whether the mux is the first owner, and what each of both says.
func TestARecordStaysOrNot(t *testing.T) {
	for _, c := range []struct {
		sure, first bool
		dip         api.Addr
		epoch       int
		fresh       int
		keeps       bool
	}{
		// Fresh: dip and epoch don't count.
		{true, true, dipB, 4, 1, true}, {true, true, dipA, 4, 1, true}, {true, true, dipB, 2, 1, true}, {true, true, dipA, 3, 1, true},
		{true, false, dipB, 4, 1, true}, {true, false, dipA, 4, 1, true}, {true, false, dipB, 2, 1, true}, {true, false, dipA, 3, 1, true},
		{false, true, dipB, 4, 1, true}, {false, true, dipA, 4, 1, true}, {false, true, dipB, 2, 1, true}, {false, true, dipA, 3, 1, true},
		{false, false, dipB, 4, 1, false}, {false, false, dipA, 4, 1, false}, {false, false, dipB, 2, 1, false}, {false, false, dipA, 3, 1, false},
		// Not fresh: who is first doesn't count.
		{true, true, dipB, 4, 0, false}, {true, true, dipA, 4, 0, false}, {true, true, dipB, 2, 0, true}, {true, true, dipA, 2, 0, true},
		{true, true, dipB, 3, 0, true}, {true, true, dipA, 3, 0, false},
		{true, false, dipB, 4, 0, false}, {true, false, dipA, 4, 0, false}, {true, false, dipB, 2, 0, true}, {true, false, dipA, 2, 0, true},
		{true, false, dipB, 3, 0, true}, {true, false, dipA, 3, 0, false},
		{false, true, dipB, 4, 0, false}, {false, true, dipA, 4, 0, false}, {false, true, dipB, 2, 0, true}, {false, true, dipA, 2, 0, true},
		{false, true, dipB, 3, 0, false}, {false, true, dipA, 3, 0, false},
		{false, false, dipB, 4, 0, false}, {false, false, dipA, 4, 0, false}, {false, false, dipB, 2, 0, true}, {false, false, dipA, 2, 0, true},
		{false, false, dipB, 3, 0, false}, {false, false, dipA, 3, 0, false},
	} {
		owners := []int{33, 32}
		if c.first {
			owners = []int{32, 33}
		}
		flows := owned(t, 3, 2, owners...)
		d := made(t, 32, 0, 2, 2)
		d.Bind(32, 1, flows[0], dipA, 3, 0)
		if c.sure {
			d.Receive(33, mCopied(1, flows[0], dipA, 3))
		}
		d.Receive(33, mCopy(1, flows[1], dipA, 3, 1))
		forget(d)
		d.Receive(33, mCopy(77, flows[0], c.dip, c.epoch, c.fresh))
		dip, epoch := c.dip, c.epoch
		if c.keeps {
			dip, epoch = dipA, 3
		}
		has(t, d, flows[0], dip, epoch)
		posted(t, d, post(33, mCopied(77, flows[0], dip, epoch)))
		quiet(t, d)
		// Whoever waits, waits on.
		d.Receive(33, mCopied(1, flows[0], dip, epoch))
		if c.sure {
			answered(t, d)
		} else {
			answered(t, d, own(32, 1, flows[0], dip, epoch, true))
		}
		// What was put is the last one, what stayed is where it was.
		d.Bind(32, 2, flows[2], dipC, 3, 0)
		if c.keeps {
			noted(t, d, evicted(32, dip, flows[0]))
		} else {
			noted(t, d, evicted(32, dipA, flows[1]))
		}
	}
}

// A record that a copy has put while the flow waits is sure, which another copy finds.
func TestACopyMakesARecordSure(t *testing.T) {
	f := owned(t, 1, 2, 33, 32)[0]
	d := made(t, 32, 0, 2, 8)
	d.Bind(32, 1, f, dipA, 3, 0)
	d.Receive(33, mCopy(7, f, dipB, 3, 1))
	d.Receive(33, mCopy(8, f, dipC, 3, 1))
	d.Receive(33, mCopy(9, f, dipC, 3, 0))
	posted(t, d, post(33, mCopy(1, f, dipA, 3, 1)), post(33, mCopied(7, f, dipB, 3)), post(33, mCopied(8, f, dipB, 3)), post(33, mCopied(9, f, dipB, 3)))
	quiet(t, d)

	// It waits on, and others with it; it isn't sure any more, when another dip is told.
	d.Bind(32, 2, f, dipC, 9, 0)
	quiet(t, d)
	d.Bind(33, 3, f, dipC, 4, dipB)
	posted(t, d, post(33, mCopy(2, f, dipC, 4, 0)))
	d.Receive(33, mCopy(10, f, dipA, 4, 0))
	posted(t, d, post(33, mCopied(10, f, dipA, 4)))
	d.Receive(33, mCopied(2, f, dipA, 4))
	answered(t, d, own(32, 1, f, dipA, 4, true), own(32, 2, f, dipA, 4, true))
	posted(t, d, bound(33, 3, f, dipA, 4, 1))
	quiet(t, d)
}

func TestACopyPutsOut(t *testing.T) {
	flows := owned(t, 3, 2, 32, 33)
	for fresh := range 2 {
		d := made(t, 32, 0, 2, 2)
		d.Receive(33, mCopy(1, flows[1], dipA, 3, fresh))
		d.Receive(33, mCopy(2, flows[0], dipB, 3, fresh))
		forget(d)
		d.Receive(33, mCopy(3, flows[2], dipC, 3, fresh))
		noted(t, d, evicted(32, dipA, flows[1]))
		posted(t, d, post(33, mCopied(3, flows[2], dipC, 3)))
		quiet(t, d)
		misses(t, d, flows[1])
		counts(t, d, 2)
	}
}

// P19.1: MCopied

func TestAMCopiedSaysWhatTheRecordIs(t *testing.T) {
	f := owned(t, 1, 3, 33, 34)[0]
	for _, dip := range []api.Addr{dipA, dipB, 0, math.MaxUint32} {
		for _, epoch := range []int{3, 2, 4, -1, math.MaxInt, math.MinInt} {
			d := made(t, 33, 6, 3, 8)
			d.Bind(33, 1, f, dipA, 3, 0)
			d.Bind(32, 2, f, dipA, 3, 0)
			forget(d)
			d.Receive(34, mCopied(6<<20+1, f, dip, epoch))
			has(t, d, f, dip, epoch)
			answered(t, d, own(33, 1, f, dip, epoch, true))
			posted(t, d, bound(32, 2, f, dip, epoch, 1))
			quiet(t, d)
			// It is sure.
			d.Receive(34, mCopy(9, f, dipC, epoch, 0))
			posted(t, d, post(34, mCopied(9, f, dip, epoch)))
			for range 5 {
				d.Tick()
			}
			quiet(t, d)
		}
	}
}

// What the other owner says of a record doesn't put it anew.
func TestAMCopiedLeavesTheOrder(t *testing.T) {
	flows := owned(t, 3, 2, 32, 33)
	d := made(t, 32, 0, 2, 2)
	d.Bind(32, 1, flows[1], dipA, 3, 0)
	d.Bind(32, 2, flows[0], dipA, 3, 0)
	d.Receive(33, mCopied(2, flows[0], dipA, 3))
	d.Receive(33, mCopied(1, flows[1], dipB, 4))
	forget(d)
	d.Bind(32, 3, flows[2], dipC, 3, 0)
	noted(t, d, evicted(32, dipB, flows[1]))
}

func TestMCopiedOfOtherTasksDoNothing(t *testing.T) {
	flows := owned(t, 2, 2, 32, 33)
	f := flows[0]
	d := made(t, 32, 1, 2, 8)
	d.Receive(33, mCopied(1<<20+1, f, dipB, 9))
	d.Receive(33, mCopied(0, f, dipB, 9))
	quiet(t, d)
	counts(t, d, 0)
	d.Bind(32, 5, f, dipA, 3, 0)
	d.Bind(32, 6, flows[1], dipA, 3, 0)
	forget(d)
	for _, task := range []int{0, 1, 2, 5, 1 << 20, 1<<20 + 2, 1<<20 + 3, 2<<20 + 1, -1<<20 - 1, -1, math.MaxInt, math.MinInt} {
		d.Receive(33, mCopied(task, f, dipB, 9))
	}
	d.Receive(33, mCopied(1<<20+1, flows[1], dipB, 9))
	quiet(t, d)
	has(t, d, f, dipA, 3)
	has(t, d, flows[1], dipA, 3)
	d.Receive(33, mCopied(1<<20+1, f, dipA, 3))
	answered(t, d, own(32, 5, f, dipA, 3, true))
	// It waits no more, for the same word either.
	d.Receive(33, mCopied(1<<20+1, f, dipB, 9))
	d.Receive(33, mCopied(0, f, dipB, 9))
	quiet(t, d)
	has(t, d, f, dipA, 3)
}

// P19.1: other messages

// Copies and what is said of them come from the other owner alone.
func TestWordsFromOthersDoNothing(t *testing.T) {
	f, notMine := owned(t, 1, 4, 33, 34)[0], owned(t, 1, 4, 35, 32)[0]
	for _, from := range append([]int{32, 33, 35, 36, 37, 38, 39}, notMuxes...) {
		d := made(t, 33, 0, 4, 8)
		d.Receive(from, mCopy(1, f, dipB, 4, 1))
		d.Receive(from, mCopy(1, f, dipB, 4, 0))
		quiet(t, d)
		counts(t, d, 0)
		d.Bind(33, 1, f, dipA, 3, 0)
		forget(d)
		d.Receive(from, mCopy(1, f, dipB, 4, 1))
		d.Receive(from, mCopy(1, f, dipB, 4, 0))
		d.Receive(from, mCopied(1, f, dipB, 4))
		quiet(t, d)
		has(t, d, f, dipA, 3)
		d.Receive(34, mCopied(1, f, dipB, 4))
		answered(t, d, own(33, 1, f, dipB, 4, true))
	}
	d := made(t, 33, 0, 4, 8)
	for from := 32; from < 40; from++ {
		d.Receive(from, mCopy(1, notMine, dipB, 4, 1))
		d.Receive(from, mCopy(1, notMine, dipB, 4, 0))
		d.Receive(from, mCopied(1, notMine, dipB, 4))
	}
	quiet(t, d)
	counts(t, d, 0)

	// A mux alone has no other.
	d = made(t, 32, 0, 1, 8)
	for _, from := range append([]int{32, 33}, notMuxes...) {
		d.Receive(from, mCopy(1, f, dipB, 4, 1))
		d.Receive(from, mCopy(1, f, dipB, 4, 0))
		d.Receive(from, mCopied(1, f, dipB, 4))
	}
	quiet(t, d)
	counts(t, d, 0)
}

// damaged is messages made of one whose Nums are as told, each of which isn't.
func damaged(m api.Msg) []api.Msg {
	var list []api.Msg
	change := func(at, n int) {
		nums := slices.Clone(m.Nums)
		nums[at] = n
		list = append(list, api.Msg{Kind: m.Kind, Nums: nums})
	}
	for _, proto := range []int{0, 1, 4, 5, 7, 16, 18, -6, 256 + 6, 1<<32 + 6, math.MaxInt, math.MinInt} {
		change(1, proto)
	}
	for _, n := range notAddrs {
		change(2, n)
		change(4, n)
		change(6, n)
		if m.Kind == api.MBind {
			change(8, n)
		}
	}
	for _, port := range []int{-1, 65536, 1 << 32, math.MaxInt, math.MinInt} {
		change(3, port)
		change(5, port)
	}
	if m.Kind == api.MCopy {
		for _, n := range []int{2, 3, -1, -2, 256, 257, 1 << 32, 1<<32 + 1, int(dipA), math.MaxInt, math.MinInt, math.MinInt + 1} {
			change(8, n)
		}
	}
	for count := range m.Nums {
		list = append(list, api.Msg{Kind: m.Kind, Nums: m.Nums[:count]})
	}
	for _, more := range []int{1, 2, 31, 32, 1000, 1 << 16} {
		for _, n := range []int{0, 1, int(dipA)} {
			list = append(list, api.Msg{Kind: m.Kind, Nums: append(slices.Clone(m.Nums), slices.Repeat([]int{n}, more)...)})
		}
	}
	return list
}

func TestDamagedMessagesDoNothing(t *testing.T) {
	flows := owned(t, 3, 2, 33, 32)
	waits, known, unknown := flows[0], flows[1], flows[2]
	var list []api.Msg
	for _, f := range flows {
		list = slices.Concat(list,
			damaged(mBind(1, f, dipB, 4, dipA)), damaged(mBind(1, f, dipB, 4, 0)),
			damaged(mCopy(1, f, dipB, 4, 1)), damaged(mCopy(1, f, dipB, 4, 0)), damaged(mCopied(1, f, dipB, 4)))
	}
	d := made(t, 32, 0, 2, 8)
	d.Bind(32, 1, waits, dipA, 3, 0)
	d.Receive(33, mCopy(1, known, dipA, 3, 1))
	forget(d)
	for _, m := range list {
		d.Receive(33, m)
		d.Receive(32, m)
		has(t, d, waits, dipA, 3)
		has(t, d, known, dipA, 3)
		misses(t, d, unknown)
		counts(t, d, 2)
		if posts := d.Out(); len(posts) > 0 {
			t.Fatalf("behind %.200v: %v", m, posts)
		}
		quiet(t, d)
	}
}

func TestMessagesOfOtherKindsDoNothing(t *testing.T) {
	f := owned(t, 1, 2, 33, 32)[0]
	kinds := []int{math.MaxInt, math.MinInt, 256 + 15, 256 + 17, 256 + 18, 1<<32 + 15, 1<<32 + 17}
	for kind := -3; kind < 300; kind++ {
		if kind != api.MBind && kind != api.MCopy && kind != api.MCopied {
			kinds = append(kinds, kind)
		}
	}
	d := made(t, 32, 0, 2, 8)
	d.Bind(32, 1, f, dipA, 3, 0)
	forget(d)
	for _, kind := range kinds {
		for _, from := range []int{32, 33} {
			d.Receive(from, api.Msg{Kind: kind})
			d.Receive(from, msg(kind, 1, f))
			d.Receive(from, msg(kind, 1, f, int(dipB), 4))
			d.Receive(from, msg(kind, 1, f, int(dipB), 4, 1))
			d.Receive(from, msg(kind, 1, f, int(dipB), 4, 0))
			d.Receive(from, msg(kind, 1, f, int(dipB), 4, int(dipA)))
		}
	}
	quiet(t, d)
	has(t, d, f, dipA, 3)
	counts(t, d, 1)
	d.Receive(33, mCopied(1, f, dipA, 3))
	answered(t, d, own(32, 1, f, dipA, 3, true))
}

// A message's data is of no weight, as Nums alone are told.
func TestDataIsOfNoWeight(t *testing.T) {
	f := owned(t, 1, 2, 32, 33)[0]
	d := made(t, 32, 0, 2, 8)
	m := mBind(4, f, dipA, 3, 0)
	m.Data = []byte("data")
	d.Receive(33, m)
	posted(t, d, post(33, mCopy(1, f, dipA, 3, 1)))
	m = mCopied(1, f, dipA, 3)
	m.Data = []byte{0}
	d.Receive(33, m)
	posted(t, d, bound(33, 4, f, dipA, 3, 1))
}

// P19.1: ticks

func TestFlowsGiveUpInTheirOrder(t *testing.T) {
	low, high := owned(t, 3, 2, 32, 33), owned(t, 3, 2, 33, 32)
	flows := slices.Concat(low, high)
	udp := slices.Clone(flows)
	for i := range udp {
		udp[i].Proto = api.UDP
	}
	all := slices.Concat(udp, flows)
	d := made(t, 32, 0, 2, 64)
	random := generator(2)
	random.Shuffle(len(all), func(i, j int) { all[i], all[j] = all[j], all[i] })
	for i, f := range all {
		d.Bind(33, i, f, dipA+api.Addr(i), 3, 0)
		d.Bind(32, i, f, dipA, 3, 0)
	}
	forget(d)
	for range 3 {
		d.Tick()
	}
	quiet(t, d)
	d.Tick()
	var posts []api.Post
	var answers []api.Bound
	var notes []api.Saw
	slices.SortFunc(flows, func(a, b api.Flow) int { return a.SrcPort - b.SrcPort })
	slices.SortFunc(udp, func(a, b api.Flow) int { return a.SrcPort - b.SrcPort })
	for _, f := range slices.Concat(flows, udp) {
		i := slices.Index(all, f)
		dip := dipA + api.Addr(i)
		posts = append(posts, bound(33, i, f, dip, 3, 0))
		answers = append(answers, own(32, i, f, dip, 3, false))
		notes = append(notes, lost(32, dip, f))
	}
	posted(t, d, posts...)
	answered(t, d, answers...)
	noted(t, d, notes...)
}

// Each flow has an age of its own, from its last telling on.
func TestEachFlowHasItsAge(t *testing.T) {
	flows := owned(t, 5, 2, 32, 33)
	d := made(t, 32, 0, 2, 8)
	for i, f := range flows {
		d.Bind(32, i, f, dipA, 3, 0)
		d.Tick()
		var want []api.Saw
		if i >= 3 {
			want = append(want, lost(32, dipA, flows[i-3]))
		}
		noted(t, d, want...)
	}
	for i := 2; i < 5; i++ {
		d.Tick()
		noted(t, d, lost(32, dipA, flows[i]))
	}
	d.Tick()
	noted(t, d)

	// Who waits, too, waits no longer than the flow does.
	d = made(t, 32, 0, 2, 8)
	d.Bind(32, 1, flows[0], dipA, 3, 0)
	d.Tick()
	d.Tick()
	d.Tick()
	d.Bind(32, 2, flows[0], dipA, 3, 0)
	d.Receive(33, mCopy(5, flows[0], dipB, 3, 1))
	answered(t, d)
	d.Tick()
	answered(t, d, own(32, 1, flows[0], dipA, 3, false), own(32, 2, flows[0], dipA, 3, false))
	noted(t, d, lost(32, dipA, flows[0]))
}

// Behind a loss the record is sure: it is answered at once, holds against copies, and may be put out.
func TestALostRecordIsSure(t *testing.T) {
	flows := owned(t, 2, 2, 33, 32)
	f := flows[0]
	d := made(t, 32, 0, 2, 1)
	d.Bind(32, 1, f, dipA, 3, 0)
	for range patience {
		d.Tick()
	}
	forget(d)
	d.Bind(32, 2, f, dipB, 4, 0)
	answered(t, d, own(32, 2, f, dipA, 3, true))
	d.Receive(33, mCopied(1, f, dipB, 4))
	quiet(t, d)
	d.Receive(33, mCopy(5, f, dipB, 3, 1))
	d.Receive(33, mCopy(6, f, dipB, 3, 0))
	posted(t, d, post(33, mCopied(5, f, dipA, 3)), post(33, mCopied(6, f, dipA, 3)))
	d.Bind(32, 3, f, dipB, 4, dipA)
	posted(t, d, post(33, mCopy(2, f, dipB, 4, 0)))
	for range patience {
		d.Tick()
	}
	answered(t, d, own(32, 3, f, dipB, 4, false))
	noted(t, d, lost(32, dipB, f))
	d.Bind(32, 4, flows[1], dipA, 3, 0)
	noted(t, d, evicted(32, dipB, f))
}

// A loss tells the record's dip, which a copy may have made another one; it leaves the record where it stands.
func TestALossTellsTheRecord(t *testing.T) {
	flows := owned(t, 3, 2, 33, 32)
	d := made(t, 32, 0, 2, 2)
	d.Bind(33, 1, flows[1], dipA, 3, 0)
	d.Receive(33, mCopy(5, flows[1], dipB, 2, 1))
	d.Receive(33, mCopy(6, flows[0], dipA, 3, 1))
	forget(d)
	for range patience {
		d.Tick()
	}
	noted(t, d, lost(32, dipB, flows[1]))
	posted(t, d, bound(33, 1, flows[1], dipB, 2, 0))
	d.Bind(32, 2, flows[2], dipC, 3, 0)
	noted(t, d, evicted(32, dipB, flows[1]))
}
