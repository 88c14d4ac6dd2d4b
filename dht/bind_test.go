package dht_test

import (
	"math"
	"slices"
	"testing"

	"towpath/api"
	"towpath/dht"
)

// ways has a test's binds come by Bind, and by a message.
func ways(t *testing.T, test func(t *testing.T, bind func(d *dht.Dht, from, task int, f api.Flow, dip api.Addr, epoch int, old api.Addr))) {
	t.Helper()
	t.Run("Bind", func(t *testing.T) {
		test(t, (*dht.Dht).Bind)
	})
	t.Run("MBind", func(t *testing.T) {
		test(t, func(d *dht.Dht, from, task int, f api.Flow, dip api.Addr, epoch int, old api.Addr) {
			d.Receive(from, mBind(task, f, dip, epoch, old))
		})
	})
}

// P19.1: binds

func TestAMuxAloneAnswersAtOnce(t *testing.T) {
	ways(t, func(t *testing.T, bind func(*dht.Dht, int, int, api.Flow, api.Addr, int, api.Addr)) {
		d := made(t, 32, 5, 1, 8)
		f := tcp(1)
		bind(d, 32, 9, f, dipA, 3, dipC)
		answered(t, d, own(32, 9, f, dipA, 3, true))
		bind(d, 32, 8, f, dipB, 7, 0)
		answered(t, d, own(32, 8, f, dipA, 3, true))
		bind(d, 32, 7, f, dipB, 4, dipA)
		answered(t, d, own(32, 7, f, dipB, 4, true))
		bind(d, 32, 6, f, dipC, 4, dipB)
		answered(t, d, own(32, 6, f, dipB, 4, true))
		has(t, d, f, dipB, 4)
		for range 5 {
			d.Tick()
		}
		quiet(t, d)
		counts(t, d, 1)
	})
}

func TestABindIsToldToTheOtherOwner(t *testing.T) {
	ways(t, func(t *testing.T, bind func(*dht.Dht, int, int, api.Flow, api.Addr, int, api.Addr)) {
		for _, c := range [][2]int{{32, 33}, {33, 32}} {
			f := owned(t, 1, 2, c[0], c[1])[0]
			for i, node := range c {
				for _, from := range c {
					d := made(t, node, 0, 2, 8)
					bind(d, from, 70, f, dipA, 3, 0)
					posted(t, d, post(c[1-i], mCopy(1, f, dipA, 3, 1)))
					quiet(t, d)
					has(t, d, f, dipA, 3)
					counts(t, d, 1)
				}
			}
		}
	})
}

// Each mux that isn't an owner may ask, and is told by a message.
func TestEachMuxIsAnswered(t *testing.T) {
	ways(t, func(t *testing.T, bind func(*dht.Dht, int, int, api.Flow, api.Addr, int, api.Addr)) {
		f := owned(t, 1, 8, 36, 35)[0]
		d := made(t, 36, 0, 8, 8)
		var all []api.Post
		for from := 32; from < 40; from++ {
			bind(d, from, 100+from, f, dipA, 3, 0)
			if from != 36 {
				all = append(all, bound(from, 100+from, f, dipA, 3, 1))
			}
		}
		posted(t, d, post(35, mCopy(1, f, dipA, 3, 1)))
		d.Receive(35, mCopied(1, f, dipA, 3))
		posted(t, d, all...)
		answered(t, d, own(36, 136, f, dipA, 3, true))
		quiet(t, d)
	})
}

func TestTasksAndEpochsMayBeAnyNumbers(t *testing.T) {
	f := owned(t, 1, 2, 32, 33)[0]
	ways(t, func(t *testing.T, bind func(*dht.Dht, int, int, api.Flow, api.Addr, int, api.Addr)) {
		for _, n := range []int{0, -1, 1 << 20, 1 << 40, 1<<40 + 1, math.MaxInt, math.MinInt} {
			for _, dip := range []api.Addr{0, 1, dipA, 0x08080808, math.MaxUint32} {
				d := made(t, 32, 0, 2, 8)
				bind(d, 32, n, f, dip, n, 0)
				bind(d, 33, n, f, dip, n, 0)
				posted(t, d, post(33, mCopy(1, f, dip, n, 1)))
				has(t, d, f, dip, n)
				d.Receive(33, mCopied(1, f, dip, n))
				answered(t, d, own(32, n, f, dip, n, true))
				posted(t, d, bound(33, n, f, dip, n, 1))
			}
		}
	})
}

func TestTasksAreCountedFromTheBoot(t *testing.T) {
	flows := owned(t, 3, 2, 32, 33)
	for _, boot := range []int{0, 1, 2, 7, lastBoot - 1, lastBoot} {
		d := made(t, 32, boot, 2, 8)
		d.Bind(32, 50, flows[0], dipA, 3, 0)
		d.Bind(32, 51, flows[0], dipA, 3, 0)
		d.Bind(32, 52, flows[1], dipB, 3, 0)
		d.Bind(32, 53, flows[1], dipC, 4, dipB)
		d.Receive(33, mCopy(9, flows[2], dipA, 3, 1))
		d.Bind(32, 54, flows[2], dipB, 4, dipA)
		posted(t, d,
			post(33, mCopy(boot<<20+1, flows[0], dipA, 3, 1)),
			post(33, mCopy(boot<<20+2, flows[1], dipB, 3, 1)),
			post(33, mCopy(boot<<20+3, flows[1], dipC, 4, 0)),
			post(33, mCopied(9, flows[2], dipA, 3)),
			post(33, mCopy(boot<<20+4, flows[2], dipB, 4, 0)))
	}
}

// What is answered at once, or finds no room, has no task.
func TestOnlyWhatIsToldHasATask(t *testing.T) {
	flows := owned(t, 3, 2, 32, 33)
	d := made(t, 32, 0, 2, 1)
	d.Bind(32, 1, flows[0], dipA, 3, 0)
	d.Bind(32, 2, flows[1], dipA, 3, 0)
	posted(t, d, post(33, mCopy(1, flows[0], dipA, 3, 1)))
	d.Receive(33, mCopied(1, flows[0], dipA, 3))
	d.Bind(32, 3, flows[0], dipA, 3, 0)
	forget(d)
	d.Bind(32, 4, flows[2], dipA, 3, 0)
	posted(t, d, post(33, mCopy(2, flows[2], dipA, 3, 1)))
	noted(t, d, evicted(32, dipA, flows[0]))
}

// Whoever asks while a flow waits, waits with it, whatever it asks for.
func TestAllWhoWaitAreAnsweredInOrder(t *testing.T) {
	ways(t, func(t *testing.T, bind func(*dht.Dht, int, int, api.Flow, api.Addr, int, api.Addr)) {
		f := owned(t, 1, 3, 32, 33)[0]
		d := made(t, 32, 0, 3, 8)
		bind(d, 34, 5, f, dipA, 3, 0)
		bind(d, 32, 9, f, dipB, 3, 0)
		bind(d, 33, 7, f, dipC, 9, 0)
		bind(d, 32, 8, f, dipC, 9, dipB)
		bind(d, 34, 5, f, dipA, 2, dipA)
		bind(d, 32, 1, f, dipB, 3, dipA)
		posted(t, d, post(33, mCopy(1, f, dipA, 3, 1)))
		quiet(t, d)
		has(t, d, f, dipA, 3)
		d.Receive(33, mCopied(1, f, dipA, 3))
		posted(t, d, bound(34, 5, f, dipA, 3, 1), bound(33, 7, f, dipA, 3, 1), bound(34, 5, f, dipA, 3, 1))
		answered(t, d, own(32, 9, f, dipA, 3, true), own(32, 8, f, dipA, 3, true), own(32, 1, f, dipA, 3, true))
		quiet(t, d)
		for range 5 {
			d.Tick()
		}
		quiet(t, d)
	})
}

// settled is a Dht of mux 32 of two that has this record, and tells nothing more of it.
func settled(t *testing.T, f api.Flow, dip api.Addr, epoch int) *dht.Dht {
	t.Helper()
	d := made(t, 32, 0, 2, 8)
	d.Bind(32, 1, f, dip, epoch, 0)
	posted(t, d, post(33, mCopy(1, f, dip, epoch, 1)))
	d.Receive(33, mCopied(1, f, dip, epoch))
	answered(t, d, own(32, 1, f, dip, epoch, true))
	quiet(t, d)
	return d
}

func TestARecordIsAnsweredAtOnce(t *testing.T) {
	ways(t, func(t *testing.T, bind func(*dht.Dht, int, int, api.Flow, api.Addr, int, api.Addr)) {
		f := owned(t, 1, 2, 32, 33)[0]
		for _, c := range []struct {
			dip   api.Addr
			epoch int
			old   api.Addr
		}{
			{dipA, 3, 0}, {dipB, 3, 0}, {dipB, 4, 0}, {dipB, 2, 0}, {dipB, 99, 0},
			{dipB, 4, dipB}, {dipB, 4, dipC}, {dipB, 4, dipA + 1}, {dipB, 4, dipA - 1}, {dipB, 4, 1}, {dipA, 4, dipC},
			{dipB, 3, dipA}, {dipB, 2, dipA}, {dipB, 0, dipA}, {dipB, -1, dipA}, {dipB, math.MinInt, dipA}, {dipA, 3, dipA},
		} {
			d := settled(t, f, dipA, 3)
			bind(d, 32, 6, f, c.dip, c.epoch, c.old)
			answered(t, d, own(32, 6, f, dipA, 3, true))
			quiet(t, d)
			bind(d, 33, 7, f, c.dip, c.epoch, c.old)
			posted(t, d, bound(33, 7, f, dipA, 3, 1))
			quiet(t, d)
			has(t, d, f, dipA, 3)
		}
	})
}

func TestAnotherDipTakesThePlaceOfTheOldOne(t *testing.T) {
	ways(t, func(t *testing.T, bind func(*dht.Dht, int, int, api.Flow, api.Addr, int, api.Addr)) {
		f := owned(t, 1, 2, 32, 33)[0]
		for _, dip := range []api.Addr{dipB, dipA, 0} {
			for _, epoch := range []int{4, 5, 99, 1 << 40, math.MaxInt} {
				d := settled(t, f, dipA, 3)
				bind(d, 33, 6, f, dip, epoch, dipA)
				posted(t, d, post(33, mCopy(2, f, dip, epoch, 0)))
				quiet(t, d)
				has(t, d, f, dip, epoch)
				counts(t, d, 1)
				bind(d, 32, 7, f, dipC, 4, 0)
				quiet(t, d)
				d.Receive(33, mCopied(2, f, dip, epoch))
				posted(t, d, bound(33, 6, f, dip, epoch, 1))
				answered(t, d, own(32, 7, f, dip, epoch, true))
				quiet(t, d)
			}
		}
	})
}

// An old dip of a flow without a record changes nothing.
func TestAnOldDipOfNoRecord(t *testing.T) {
	ways(t, func(t *testing.T, bind func(*dht.Dht, int, int, api.Flow, api.Addr, int, api.Addr)) {
		f := owned(t, 1, 2, 32, 33)[0]
		for _, old := range []api.Addr{dipA, dipB, 1} {
			d := made(t, 32, 0, 2, 8)
			bind(d, 32, 6, f, dipA, 3, old)
			posted(t, d, post(33, mCopy(1, f, dipA, 3, 1)))
			has(t, d, f, dipA, 3)
		}
	})
}

// The dip 0 is no old one, also where a record has it.
func TestTheOldDipNought(t *testing.T) {
	ways(t, func(t *testing.T, bind func(*dht.Dht, int, int, api.Flow, api.Addr, int, api.Addr)) {
		f := owned(t, 1, 2, 32, 33)[0]
		d := settled(t, f, 0, 3)
		bind(d, 32, 6, f, dipA, 4, 0)
		answered(t, d, own(32, 6, f, 0, 3, true))
		quiet(t, d)
		has(t, d, f, 0, 3)
	})
}

// While a flow waits, too, another dip may take its old one's place: it waits anew, with all who waited for it.
func TestAnotherDipWhileAFlowWaits(t *testing.T) {
	ways(t, func(t *testing.T, bind func(*dht.Dht, int, int, api.Flow, api.Addr, int, api.Addr)) {
		f := owned(t, 1, 3, 32, 33)[0]
		d := made(t, 32, 0, 3, 8)
		bind(d, 34, 5, f, dipA, 3, 0)
		for range 3 {
			d.Tick()
		}
		bind(d, 32, 6, f, dipB, 4, dipA)
		bind(d, 34, 7, f, dipB, 4, dipA)
		posted(t, d, post(33, mCopy(1, f, dipA, 3, 1)), post(33, mCopy(2, f, dipB, 4, 0)))
		quiet(t, d)
		d.Receive(33, mCopied(1, f, dipA, 3))
		has(t, d, f, dipB, 4)
		for range 3 {
			d.Tick()
			quiet(t, d)
		}
		d.Receive(33, mCopied(2, f, dipB, 4))
		posted(t, d, bound(34, 5, f, dipB, 4, 1), bound(34, 7, f, dipB, 4, 1))
		answered(t, d, own(32, 6, f, dipB, 4, true))
		quiet(t, d)
		d.Receive(33, mCopied(2, f, dipB, 4))
		d.Receive(33, mCopied(1, f, dipA, 3))
		quiet(t, d)
		has(t, d, f, dipB, 4)
	})
}

func TestBindsThatDoNothing(t *testing.T) {
	ways(t, func(t *testing.T, bind func(*dht.Dht, int, int, api.Flow, api.Addr, int, api.Addr)) {
		mine, others := owned(t, 2, 4, 33, 34), owned(t, 1, 4, 35, 32)
		d := made(t, 33, 0, 4, 8)
		bind(d, 33, 1, mine[0], dipA, 3, 0)
		d.Receive(34, mCopied(1, mine[0], dipA, 3))
		forget(d)
		for _, f := range append(notForm(), others...) {
			for _, from := range []int{32, 33, 34, 35} {
				bind(d, from, 1, f, dipA, 3, 0)
				bind(d, from, 1, f, dipA, 3, dipA)
			}
			misses(t, d, f)
		}
		for _, from := range append([]int{36, 37, 38, 39}, notMuxes...) {
			for _, f := range mine {
				bind(d, from, 1, f, dipB, 4, 0)
				bind(d, from, 1, f, dipB, 4, dipA)
			}
		}
		quiet(t, d)
		counts(t, d, 1)
		has(t, d, mine[0], dipA, 3)
		for range 5 {
			d.Tick()
		}
		quiet(t, d)
	})
}

// Of each number of muxes, each one takes binds of the flows that it owns alone.
func TestOwnersAloneTakeBinds(t *testing.T) {
	ways(t, func(t *testing.T, bind func(*dht.Dht, int, int, api.Flow, api.Addr, int, api.Addr)) {
		for muxes := 1; muxes <= 8; muxes++ {
			for node := 32; node < 32+muxes; node++ {
				for port := range 60 {
					f := tcp(port)
					d := made(t, node, 0, muxes, 8)
					bind(d, node, 1, f, dipA, 3, 0)
					owners := keepers(f, muxes)
					switch at := slices.Index(owners, node); {
					case at < 0:
						quiet(t, d)
						counts(t, d, 0)
					case muxes == 1:
						answered(t, d, own(32, 1, f, dipA, 3, true))
					default:
						posted(t, d, post(owners[1-at], mCopy(1, f, dipA, 3, 1)))
						counts(t, d, 1)
					}
				}
			}
		}
	})
}

// P19.1: room

func TestTheFirstRecordIsPutOut(t *testing.T) {
	d := made(t, 32, 0, 1, 3)
	for port := range 3 {
		d.Bind(32, port, tcp(9-port), dipA+api.Addr(port), 3, 0)
	}
	forget(d)
	d.Bind(32, 7, tcp(20), dipB, 3, 0)
	noted(t, d, evicted(32, dipA, tcp(9)))
	answered(t, d, own(32, 7, tcp(20), dipB, 3, true))
	misses(t, d, tcp(9))
	counts(t, d, 3)

	// Of a record that is put anew, the flow is the last one; one that is answered alone stays where it is.
	d.Bind(32, 7, tcp(8), dipC, 4, dipA+1)
	d.Bind(32, 7, tcp(7), dipC, 4, 0)
	forget(d)
	d.Bind(32, 7, tcp(21), dipB, 3, 0)
	d.Bind(32, 7, tcp(22), dipB, 3, 0)
	d.Bind(32, 7, tcp(23), dipB, 3, 0)
	noted(t, d, evicted(32, dipA+2, tcp(7)), evicted(32, dipB, tcp(20)), evicted(32, dipC, tcp(8)))
	counts(t, d, 3)
	misses(t, d, tcp(7), tcp(8), tcp(9), tcp(20))
}

// As long as there is room, or a flow has a record, none is put out.
func TestNoneIsPutOutWithoutNeed(t *testing.T) {
	for _, room := range []int{1, 2, 3, 64, lastRoom} {
		d := made(t, 32, 0, 1, room)
		for port := range room {
			d.Bind(32, 1, tcp(port), dipA, 3, 0)
		}
		for port := range room {
			d.Bind(32, 1, tcp(port), dipB, 4, dipA)
		}
		noted(t, d)
		counts(t, d, room)
		d.Bind(32, 1, tcp(room), dipA, 3, 0)
		noted(t, d, evicted(32, dipB, tcp(0)))
		counts(t, d, room)
	}
}

func TestRoomForNone(t *testing.T) {
	f := owned(t, 1, 2, 32, 33)[0]
	for muxes := 1; muxes <= 2; muxes++ {
		d := made(t, 32, 0, muxes, 0)
		d.Bind(32, 1, f, dipA, 3, 0)
		d.Receive(32, mBind(1, f, dipA, 3, 0))
		d.Receive(33, mCopy(1, f, dipA, 3, 1))
		d.Receive(33, mCopy(1, f, dipA, 3, 0))
		for range 5 {
			d.Tick()
		}
		quiet(t, d)
		counts(t, d, 0)
		misses(t, d, f)
	}
}

// A flow that waits keeps its record, also where a copy has made that sure.
func TestFlowsThatWaitAreNotPutOut(t *testing.T) {
	flows := owned(t, 4, 2, 33, 32)
	d := made(t, 32, 0, 2, 2)
	d.Bind(32, 1, flows[0], dipA, 3, 0)
	d.Bind(32, 2, flows[1], dipA, 3, 0)
	d.Receive(33, mCopy(9, flows[0], dipB, 3, 1))
	forget(d)
	has(t, d, flows[0], dipB, 3)
	d.Bind(32, 3, flows[2], dipA, 3, 0)
	d.Receive(33, mBind(4, flows[2], dipA, 3, 0))
	d.Receive(33, mCopy(5, flows[2], dipA, 3, 1))
	d.Receive(33, mCopy(6, flows[2], dipA, 3, 0))
	quiet(t, d)
	counts(t, d, 2)
	misses(t, d, flows[2])

	// The second one waits no more: it goes, though the first one was there ahead of it.
	d.Receive(33, mCopied(2, flows[1], dipA, 3))
	forget(d)
	d.Bind(32, 7, flows[2], dipA, 3, 0)
	posted(t, d, post(33, mCopy(3, flows[2], dipA, 3, 1)))
	noted(t, d, evicted(32, dipA, flows[1]))
	for range patience {
		d.Tick()
	}
	forget(d)
	d.Receive(33, mCopy(8, flows[3], dipC, 5, 0))
	posted(t, d, post(33, mCopied(8, flows[3], dipC, 5)))
	noted(t, d, evicted(32, dipB, flows[0]))
	has(t, d, flows[2], dipA, 3)
	has(t, d, flows[3], dipC, 5)
}
