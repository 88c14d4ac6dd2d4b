package lease_test

import (
	"errors"
	"math"
	"math/rand/v2"
	"slices"
	"testing"

	"towpath/api"
	"towpath/lease"
)

const (
	vipA api.Addr = 0x01010101
	vipB api.Addr = 0x02020202

	lastFirst = 65528
	lastTime  = 1 << 40
)

var (
	// notVips and notDips are addresses ahead of what is allowed, behind it, and between.
	notVips = []api.Addr{0, 0x00ffffff, 0x0a000000, 0x0a000020, 0x0a010000, 0x0a010002, 0x0affffff, 0x7f000000, 0x7f000001, 0x7fffffff, 0xe0000000, 0xe0000001, math.MaxUint32}
	notDips = []api.Addr{0, 1, vipA, 0x0a000020, 0x0a000fff, 0x0a00ffff, 0x0a010010, 0x0a0100ff, 0x0a010110, 0x0a010710, 0x0a010800, 0x0a01ff00, 0x0a020000, 0x0b010000, math.MaxUint32}

	allVips = []api.Addr{0x01000000, vipA, vipB, 0x09ffffff, 0x0b000000, 0x7effffff, 0x80000000, 0xdfffffff}

	notFirsts  = []int{-1, 0, 1, 7, 8, 80, 1016, 1023, 1025, 1028, 1031, 1033, 65520 + 1, 65527, 65529, 65535, 65536, 65544, 1 << 20, 1<<32 + 1024, -1024, math.MaxInt, math.MaxInt - 7, math.MinInt, math.MinInt + 1024}
	notTimes   = []int{-1, -2, -64, -65, lastTime + 1, lastTime + 2, lastTime + 64, 2 * lastTime, 1 << 62, math.MaxInt, math.MaxInt - 1, math.MinInt, math.MinInt + 1}
	notExpires = []int{-1, -64, lastTime + 65, lastTime + 66, 2 * lastTime, 1 << 62, math.MaxInt, math.MinInt}
)

func generator(seed uint64) *rand.Rand {
	return rand.New(rand.NewPCG(seed, 12))
}

// dip is one of the 128 machines, by its number.
func dip(n int) api.Addr {
	return 0x0a010000 + api.Addr(n/16)<<8 + api.Addr(n%16)
}

func let(vip api.Addr, first int, dip api.Addr, expires int) api.Lease {
	return api.Lease{Vip: vip, First: first, Dip: dip, Expires: expires}
}

// granted wants a lease of this First, in a list that else is as it was.
func granted(t *testing.T, list []api.Lease, vip, dip api.Addr, now, first int) []api.Lease {
	t.Helper()
	want := let(vip, first, dip, now+64)
	longer, l, err := lease.Grant(list, vip, dip, now)
	if l != want || err != nil || !slices.Equal(longer, with(list, want)) {
		t.Fatalf("Grant(%.300v, %v, %v, %d) = %.300v, %v, %v, want %v", list, vip, dip, now, longer, l, err, want)
	}
	return longer
}

func notGranted(t *testing.T, list []api.Lease, vip, dip api.Addr, now int, want error) {
	t.Helper()
	if longer, l, err := lease.Grant(list, vip, dip, now); len(longer) > 0 || l != (api.Lease{}) || !errors.Is(err, want) {
		t.Fatalf("Grant(%.300v, %v, %v, %d) = %.300v, %v, %v, want %v", list, vip, dip, now, longer, l, err, want)
	}
}

func renewed(t *testing.T, list []api.Lease, vip api.Addr, first int, dip api.Addr, now int) []api.Lease {
	t.Helper()
	want := let(vip, first, dip, now+64)
	longer, l, err := lease.Renew(list, vip, first, dip, now)
	if l != want || err != nil || !slices.Equal(longer, with(list, want)) {
		t.Fatalf("Renew(%.300v, %v, %d, %v, %d) = %.300v, %v, %v, want %v", list, vip, first, dip, now, longer, l, err, want)
	}
	return longer
}

func notRenewed(t *testing.T, list []api.Lease, vip api.Addr, first int, dip api.Addr, now int, want error) {
	t.Helper()
	if longer, l, err := lease.Renew(list, vip, first, dip, now); len(longer) > 0 || l != (api.Lease{}) || !errors.Is(err, want) {
		t.Fatalf("Renew(%.300v, %v, %d, %v, %d) = %.300v, %v, %v, want %v", list, vip, first, dip, now, longer, l, err, want)
	}
}

// with is a list in form with a lease put ahead of all that are greater, in the place of one of its block.
func with(list []api.Lease, l api.Lease) []api.Lease {
	var longer []api.Lease
	put := false
	for _, other := range list {
		if !put && (other.Vip > l.Vip || other.Vip == l.Vip && other.First >= l.First) {
			longer, put = append(longer, l), true
		}
		if other.Vip != l.Vip || other.First != l.First {
			longer = append(longer, other)
		}
	}
	if !put {
		longer = append(longer, l)
	}
	return longer
}

func found(t *testing.T, list []api.Lease, vip api.Addr, port, now int, want api.Lease) {
	t.Helper()
	if l, ok := lease.Find(list, vip, port, now); l != want || !ok {
		t.Fatalf("Find(%.300v, %v, %d, %d) = %v, %v, want %v, true", list, vip, port, now, l, ok, want)
	}
}

func notFound(t *testing.T, list []api.Lease, vip api.Addr, port, now int) {
	t.Helper()
	if l, ok := lease.Find(list, vip, port, now); l != (api.Lease{}) || ok {
		t.Fatalf("Find(%.300v, %v, %d, %d) = %v, %v, want none", list, vip, port, now, l, ok)
	}
}

func of(t *testing.T, list []api.Lease, dip api.Addr, now int, want ...api.Lease) {
	t.Helper()
	if got := lease.Of(list, dip, now); !slices.Equal(got, want) {
		t.Fatalf("Of(%.300v, %v, %d) = %.300v, want %.300v", list, dip, now, got, want)
	}
}

func pruned(t *testing.T, list []api.Lease, now int, want ...api.Lease) {
	t.Helper()
	if got := lease.Prune(list, now); !slices.Equal(got, want) {
		t.Fatalf("Prune(%.300v, %d) = %.300v, want %.300v", list, now, got, want)
	}
}

// inForm and notInForm ask all three calls that look at a list's form.
func inForm(t *testing.T, list ...api.Lease) {
	t.Helper()
	if err := lease.Check(list); err != nil {
		t.Fatalf("Check(%v) = %v, want nil", list, err)
	}
	if _, _, err := lease.Grant(list, 0x03030303, dip(127), 5); err != nil {
		t.Fatalf("Grant(%v, 3.3.3.3, %v, 5): %v", list, dip(127), err)
	}
	notRenewed(t, list, 0x03030303, 1024, dip(127), 5, api.ErrGone)
}

func notInForm(t *testing.T, list ...api.Lease) {
	t.Helper()
	if err := lease.Check(list); !errors.Is(err, api.ErrForm) {
		t.Fatalf("Check(%v) = %v, want %v", list, err, api.ErrForm)
	}
	notGranted(t, list, 0x03030303, dip(127), 5, api.ErrForm)
	for _, l := range append(list, let(0x03030303, 1024, dip(127), 9)) {
		notRenewed(t, list, l.Vip, l.First, l.Dip, 5, api.ErrForm)
	}
}

// full is a list in which every block of a vip is lent to a machine.
func full(vip, dip api.Addr, expires int) []api.Lease {
	var list []api.Lease
	for first := 1024; first <= lastFirst; first += 8 {
		list = append(list, let(vip, first, dip, expires))
	}
	return list
}

// P12.1

func TestExample(t *testing.T) {
	one := granted(t, nil, vipA, dip(1), 5, 1024)
	two := granted(t, one, vipA, dip(2), 6, 1032)
	three := granted(t, two, vipA, dip(3), 70, 1024)
	if want := []api.Lease{let(vipA, 1024, dip(1), 69)}; !slices.Equal(one, want) {
		t.Errorf("one lease: %v, want %v", one, want)
	}
	if want := []api.Lease{let(vipA, 1024, dip(3), 134), let(vipA, 1032, dip(2), 70)}; !slices.Equal(three, want) {
		t.Errorf("three leases: %v, want %v", three, want)
	}
	found(t, three, vipA, 1033, 70, let(vipA, 1032, dip(2), 70))
}

func TestCheckTakesGoodLeases(t *testing.T) {
	inForm(t)
	inForm(t, []api.Lease{}...)
	for _, vip := range allVips {
		inForm(t, let(vip, 1024, dip(0), 5))
	}
	for n := range 128 {
		inForm(t, let(vipA, 1024, dip(n), 5))
	}
	for first := 1024; first <= lastFirst; first += 8 {
		inForm(t, let(vipA, first, dip(0), 5))
	}
	for _, expires := range []int{0, 1, 64, 1 << 32, lastTime - 1, lastTime, lastTime + 1, lastTime + 63, lastTime + 64} {
		inForm(t, let(vipA, 1024, dip(0), expires))
	}
	if err := lease.Check(full(vipA, dip(0), 5)); err != nil {
		t.Errorf("Check of a vip's all blocks: %v", err)
	}
}

func TestCheckRefusesLeasesThatAreNotGood(t *testing.T) {
	good := let(vipA, 1032, dip(1), 9)
	var bad []api.Lease
	for _, vip := range notVips {
		bad = append(bad, let(vip, good.First, good.Dip, good.Expires))
	}
	for _, dip := range notDips {
		bad = append(bad, let(good.Vip, good.First, dip, good.Expires))
	}
	for _, first := range notFirsts {
		bad = append(bad, let(good.Vip, first, good.Dip, good.Expires))
	}
	for _, expires := range notExpires {
		bad = append(bad, let(good.Vip, good.First, good.Dip, expires))
	}
	for _, l := range append(bad, api.Lease{}) {
		notInForm(t, l)
		notInForm(t, let(0x01000000, 1024, dip(0), 5), l)
		notInForm(t, l, let(0xdfffffff, lastFirst, dip(0), 5))
		notInForm(t, let(0x01000000, 1024, dip(0), 5), l, let(0xdfffffff, lastFirst, dip(0), 5))
	}
}

func TestCheckWantsThemToRise(t *testing.T) {
	rising := []api.Lease{
		let(0x01000000, 65520, dip(9), 70),
		let(0x01000000, lastFirst, dip(8), 60),
		let(vipA, 1024, dip(7), 50),
		let(vipA, 1032, dip(6), 40),
		let(vipA, 1048, dip(6), 40),
		let(vipB, 1024, dip(1), 9),
		let(0xdfffffff, 1024, dip(0), 8),
	}
	inForm(t, rising...)
	for i := range rising {
		inForm(t, slices.Delete(slices.Clone(rising), i, i+1)...)
		for j := range i {
			swapped := slices.Clone(rising)
			swapped[i], swapped[j] = swapped[j], swapped[i]
			notInForm(t, swapped...)
			notInForm(t, rising[i], rising[j])
			inForm(t, rising[j], rising[i])
		}
		notInForm(t, slices.Insert(slices.Clone(rising), i, rising[i])...)
		twin := let(rising[i].Vip, rising[i].First, dip(100), 200)
		notInForm(t, slices.Insert(slices.Clone(rising), i, twin)...)
		notInForm(t, slices.Insert(slices.Clone(rising), i+1, twin)...)
	}
}

func TestGrantTakesAllVipsMachinesAndTimes(t *testing.T) {
	for _, vip := range allVips {
		granted(t, nil, vip, dip(3), 5, 1024)
	}
	for n := range 128 {
		granted(t, []api.Lease{}, vipA, dip(n), 5, 1024)
	}
	for _, now := range []int{0, 1, 63, 64, 65, 1 << 32, lastTime - 1, lastTime} {
		list := granted(t, nil, vipA, dip(3), now, 1024)
		granted(t, list, vipA, dip(3), now, 1032)
	}
}

func TestGrantRefusesWhatIsNotInForm(t *testing.T) {
	for _, list := range [][]api.Lease{nil, {let(vipA, 1024, dip(0), 9)}, full(vipA, dip(0), 500)} {
		for _, vip := range notVips {
			notGranted(t, list, vip, dip(0), 5, api.ErrForm)
		}
		for _, dip := range notDips {
			notGranted(t, list, vipA, dip, 5, api.ErrForm)
		}
		for _, now := range notTimes {
			notGranted(t, list, vipA, dip(0), now, api.ErrForm)
		}
	}
}

func TestGrantPutsItsLeaseInOrder(t *testing.T) {
	around := []api.Lease{
		let(vipA-1, 1024, dip(1), 99),
		let(vipA-1, lastFirst, dip(1), 99),
		let(vipA+1, 1024, dip(2), 99),
		let(vipA+1, lastFirst, dip(2), 99),
	}
	for n := range len(around) + 1 {
		granted(t, around[:n], vipA, dip(0), 5, 1024)
		granted(t, around[n:], vipA, dip(0), 5, 1024)
	}
	list := granted(t, around, vipA, dip(0), 5, 1024)
	list = granted(t, list, vipA, dip(0), 5, 1032)
	list = granted(t, list, vipA-1, dip(0), 5, 1032)
	list = granted(t, list, vipA+1, dip(0), 5, 1032)
	notGranted(t, list, vipA, dip(0), 5, api.ErrQuota)
}

// A block is free just behind its Expires, and those that don't live stay in the list while nobody takes their block.
func TestGrantTakesTheLeastBlockOfWhichNoneLives(t *testing.T) {
	list := []api.Lease{
		let(vipA, 1024, dip(1), 20),
		let(vipA, 1032, dip(1), 9),
		let(vipA, 1040, dip(1), 19),
		let(vipA, 1056, dip(1), 8),
		let(vipB, 1032, dip(1), 99),
		let(vipB, 1048, dip(1), 99),
	}
	for _, step := range []struct{ now, first int }{{0, 1048}, {8, 1048}, {9, 1048}, {10, 1032}, {19, 1032}, {20, 1032}, {21, 1024}, {lastTime, 1024}} {
		granted(t, list, vipA, dip(0), step.now, step.first)
	}
	list = granted(t, list, vipA, dip(0), 9, 1048)
	list = granted(t, list, vipA, dip(0), 9, 1056)
	list = granted(t, list, vipA, dip(0), 9, 1064)
	list = granted(t, list, vipB, dip(0), 9, 1024)
	notGranted(t, list, vipB, dip(0), 10, api.ErrQuota)
	list = granted(t, list, vipA, dip(2), 10, 1032)
	granted(t, list, vipB, dip(2), 10, 1040)
}

func TestGrantFindsAnyBlock(t *testing.T) {
	all := full(vipA, dip(1), 50)
	for i, l := range all {
		if i > 65 && i < 8060 && i%320 != 0 && i%448 != 447 {
			continue
		}
		granted(t, slices.Delete(slices.Clone(all), i, i+1), vipA, dip(0), 50, l.First)
		over := slices.Clone(all)
		over[i].Expires = 49
		granted(t, over, vipA, dip(0), 50, l.First)
	}
}

func TestGrantFindsTheLeastOfManyBlocks(t *testing.T) {
	g := generator(1)
	for range 100 {
		var list []api.Lease
		least := 0
		rare := 1 + g.IntN(9000)
		for _, l := range full(vipA, dip(1), 50) {
			open := g.IntN(rare) == 0
			if open && least == 0 {
				least = l.First
			}
			if open {
				l.Expires = g.IntN(50)
			}
			if !open || g.IntN(2) == 0 {
				list = append(list, l)
			}
		}
		if least == 0 {
			notGranted(t, list, vipA, dip(0), 50, api.ErrFull)
			continue
		}
		granted(t, list, vipA, dip(0), 50, least)
	}
}

func TestGrantOfAFullVip(t *testing.T) {
	list := full(vipA, dip(1), 50)
	for _, now := range []int{0, 5, 49, 50} {
		notGranted(t, list, vipA, dip(0), now, api.ErrFull)
		notGranted(t, list, vipA, dip(1), now, api.ErrQuota)
		granted(t, list, vipB, dip(0), now, 1024)
		granted(t, list, vipA-1, dip(0), now, 1024)
	}
	granted(t, list, vipA, dip(0), 51, 1024)
	granted(t, list, vipA, dip(1), 51, 1024)
	both := slices.Concat(list, full(vipB, dip(2), 60))
	notGranted(t, both, vipA, dip(0), 50, api.ErrFull)
	notGranted(t, both, vipB, dip(0), 60, api.ErrFull)
	granted(t, both, vipA, dip(0), 60, 1024)
}

func TestGrantCountsWhatLives(t *testing.T) {
	list := []api.Lease{
		let(vipA, 1024, dip(0), 20),
		let(vipA, 1032, dip(1), 90),
		let(vipA, 1040, dip(0), 10),
		let(vipB, 1024, dip(0), 30),
		let(vipB, lastFirst, dip(0), 40),
		let(0x03030303, 2048, dip(0), 20),
	}
	for now := range 21 {
		notGranted(t, list, vipA, dip(0), now, api.ErrQuota)
		notGranted(t, list, vipB, dip(0), now, api.ErrQuota)
		notGranted(t, list, 0x04040404, dip(0), now, api.ErrQuota)
	}
	granted(t, list, vipA, dip(0), 21, 1024)
	granted(t, list, vipB, dip(0), 21, 1032)
	granted(t, list, vipA, dip(1), 11, 1040)
	four := list[:5]
	for now := range 11 {
		notGranted(t, four, 0x04040404, dip(0), now, api.ErrQuota)
	}
	granted(t, four, 0x04040404, dip(0), 11, 1024)
	granted(t, list[:4], 0x04040404, dip(0), 10, 1024)
}

func TestRenew(t *testing.T) {
	list := []api.Lease{
		let(vipA, 1024, dip(0), 20),
		let(vipA, 1032, dip(1), 30),
		let(vipB, 1024, dip(0), 40),
		let(vipB, lastFirst, dip(127), lastTime+64),
	}
	for _, l := range list {
		for _, now := range []int{0, 1, l.Expires - 64, l.Expires - 1, l.Expires} {
			if now >= 0 && now <= lastTime {
				renewed(t, list, l.Vip, l.First, l.Dip, now)
			}
		}
		if l.Expires < lastTime {
			notRenewed(t, list, l.Vip, l.First, l.Dip, l.Expires+1, api.ErrGone)
			notRenewed(t, list, l.Vip, l.First, l.Dip, lastTime, api.ErrGone)
		}
	}
	renewed(t, list, vipB, lastFirst, dip(127), lastTime)
}

func TestRenewOfNone(t *testing.T) {
	list := []api.Lease{
		let(vipA, 1024, dip(0), 20),
		let(vipA, 1032, dip(1), 30),
		let(vipB, 1024, dip(1), 40),
	}
	notRenewed(t, nil, vipA, 1024, dip(0), 5, api.ErrGone)
	notRenewed(t, []api.Lease{}, 0, 0, 0, 0, api.ErrGone)
	for _, vip := range append([]api.Addr{vipA, vipB, 0x03030303}, notVips...) {
		for _, first := range append([]int{1024, 1032, 1040}, notFirsts...) {
			for _, dip := range append([]api.Addr{dip(0), dip(1), dip(2)}, notDips...) {
				there := func(l api.Lease) bool { return l.Vip == vip && l.First == first && l.Dip == dip }
				if !slices.ContainsFunc(list, there) {
					notRenewed(t, list, vip, first, dip, 5, api.ErrGone)
				}
			}
		}
	}
}

func TestRenewRefusesOtherTimes(t *testing.T) {
	list := []api.Lease{let(vipA, 1024, dip(0), 20), let(vipB, lastFirst, dip(127), lastTime+64)}
	for _, now := range notTimes {
		notRenewed(t, nil, vipA, 1024, dip(0), now, api.ErrForm)
		for _, l := range append(list, api.Lease{}) {
			notRenewed(t, list, l.Vip, l.First, l.Dip, now, api.ErrForm)
		}
	}
}

// A machine that has more leases than it may have gets none anew, but may renew those that it has.
func TestRenewAsksForNoQuota(t *testing.T) {
	list := full(vipA, dip(1), 50)
	renewed(t, list, vipA, 1024, dip(1), 50)
	renewed(t, list, vipA, 4096, dip(1), 0)
	renewed(t, list, vipA, lastFirst, dip(1), 7)
}

func TestFindLooksAtAllPortsOfABlock(t *testing.T) {
	list := []api.Lease{
		let(vipA, 1024, dip(0), 20),
		let(vipA, 1040, dip(1), 30),
		let(vipB, 1032, dip(2), 40),
		let(vipB, lastFirst, dip(3), 50),
	}
	for port := range 1 << 17 {
		for _, vip := range []api.Addr{vipA, vipB, 0x03030303} {
			at := slices.IndexFunc(list, func(l api.Lease) bool { return l.Vip == vip && l.First == port/8*8 })
			if at < 0 {
				notFound(t, list, vip, port, 5)
				continue
			}
			for _, now := range []int{math.MinInt, -1, 0, 5, list[at].Expires} {
				found(t, list, vip, port, now, list[at])
			}
			for _, now := range []int{list[at].Expires + 1, lastTime, math.MaxInt} {
				notFound(t, list, vip, port, now)
			}
		}
	}
	for _, port := range []int{-1, -8, -1024, 1<<32 + 1024, math.MaxInt, math.MinInt} {
		notFound(t, list, vipA, port, 5)
		notFound(t, nil, vipA, port, 5)
	}
}

func TestFindTakesTheFirstOfSeveral(t *testing.T) {
	list := []api.Lease{
		let(vipA, 1024, dip(0), 9),
		let(vipB, 1024, dip(1), 99),
		let(vipA, 1024, dip(2), 20),
		let(vipA, 1024, dip(3), 30),
		let(vipA, 1024, dip(3), 30),
		let(vipA, 1024, dip(4), 19),
	}
	found(t, list, vipA, 1031, 9, list[0])
	found(t, list, vipA, 1031, 10, list[2])
	found(t, list, vipA, 1031, 20, list[2])
	found(t, list, vipA, 1031, 21, list[3])
	notFound(t, list, vipA, 1031, 31)
	found(t, list, vipB, 1031, 31, list[1])
}

// odd is leases of which none is good.
func odd() []api.Lease {
	return []api.Lease{
		{},
		let(0, 3, 0, -5),
		let(vipA, math.MinInt, 7, math.MaxInt),
		let(vipA, math.MaxInt, 8, math.MaxInt),
		let(vipA, math.MaxInt-3, 9, math.MaxInt-1),
		let(vipA, -4, 7, math.MinInt),
		let(0, -1<<62, 8, math.MinInt+1),
		let(math.MaxUint32, 1<<62, math.MaxUint32, 0),
	}
}

func TestFindInAnyList(t *testing.T) {
	list := odd()
	found(t, list, 0, 0, 0, list[0])
	found(t, list, 0, 7, -1, list[0])
	notFound(t, list, 0, 7, 1)
	found(t, list, 0, 3, -5, list[0])
	found(t, list[1:], 0, 3, -5, list[1])
	found(t, list[1:], 0, 10, math.MinInt, list[1])
	notFound(t, list[1:], 0, 10, -4)
	notFound(t, list[1:], 0, 11, -5)
	notFound(t, list[1:], 0, 2, -5)
	found(t, list, vipA, math.MinInt, math.MaxInt, list[2])
	found(t, list, vipA, math.MinInt+7, 0, list[2])
	notFound(t, list, vipA, math.MinInt+8, 0)
	found(t, list, vipA, math.MaxInt, math.MaxInt, list[3])
	notFound(t, list, vipA, math.MaxInt-1, math.MaxInt)
	found(t, list, vipA, math.MaxInt-1, math.MaxInt-1, list[4])
	found(t, list, vipA, math.MaxInt-3, 0, list[4])
	notFound(t, list, vipA, math.MaxInt-4, 0)
	notFound(t, list[3:], vipA, math.MinInt, 0)
	notFound(t, list[3:], vipA, math.MinInt+3, 0)
	found(t, list, vipA, -4, math.MinInt, list[5])
	found(t, list, vipA, 3, math.MinInt, list[5])
	notFound(t, list, vipA, 0, math.MinInt+1)
	found(t, list, 0, -1<<62+7, math.MinInt+1, list[6])
	notFound(t, list, 0, -1<<62+7, math.MinInt+2)
	found(t, list, math.MaxUint32, 1<<62+7, 0, list[7])
}

func TestOfAndPruneTellWhatLives(t *testing.T) {
	list := []api.Lease{
		let(vipA, 1024, dip(0), 20),
		let(vipA, 1032, dip(1), 30),
		let(vipA, 1040, dip(0), 10),
		let(vipB, 1024, dip(0), 30),
		let(vipB, 1032, dip(1), 9),
	}
	of(t, list, dip(0), 10, list[0], list[2], list[3])
	of(t, list, dip(0), 11, list[0], list[3])
	of(t, list, dip(0), 20, list[0], list[3])
	of(t, list, dip(0), 21, list[3])
	of(t, list, dip(0), 31)
	of(t, list, dip(1), -5, list[1], list[4])
	of(t, list, dip(2), 5)
	of(t, list, 0, 5)
	of(t, nil, dip(0), 5)
	pruned(t, list, math.MinInt, list...)
	pruned(t, list, 9, list...)
	pruned(t, list, 10, list[:4]...)
	pruned(t, list, 11, list[0], list[1], list[3])
	pruned(t, list, 21, list[1], list[3])
	pruned(t, list, 30, list[1], list[3])
	pruned(t, list, 31)
	pruned(t, list, math.MaxInt)
	pruned(t, nil, 5)
}

func TestOfAndPruneOfAnyList(t *testing.T) {
	list := odd()
	of(t, list, 0, -5, list[0], list[1])
	of(t, list, 0, -4, list[0])
	of(t, list, 7, math.MinInt, list[2], list[5])
	of(t, list, 7, math.MaxInt, list[2])
	of(t, list, 8, math.MinInt+1, list[3], list[6])
	of(t, list, math.MaxUint32, 0, list[7])
	of(t, list, math.MaxUint32, 1)
	pruned(t, list, math.MinInt, list...)
	pruned(t, list, 0, list[0], list[2], list[3], list[4], list[7])
	pruned(t, list, math.MaxInt, list[2], list[3])
	twins := slices.Repeat([]api.Lease{let(vipB, 9, 1, 5), let(vipA, 8, 1, 5)}, 3)
	of(t, twins, 1, 5, twins...)
	pruned(t, twins, 5, twins...)
	pruned(t, twins, 6)
}

// P12.2, P12.3

// lent is who has a port, and until when.
type lent struct {
	dip     api.Addr
	expires int
}

type port struct {
	vip  api.Addr
	port int
}

// ledger is what was lent, port by port: a machine's ports stay its own till they end.
type ledger map[port]lent

// count is how many ports of a machine live.
func (b ledger) count(dip api.Addr, now int) int {
	n := 0
	for _, l := range b {
		if l.dip == dip && now <= l.expires {
			n++
		}
	}
	return n
}

// write puts a lease's ports down; none of them may be another machine's.
func (b ledger) write(t *testing.T, l api.Lease, now int, renews bool) {
	t.Helper()
	if l.Expires != now+64 || l.First < 1024 || l.First%8 != 0 || l.First > lastFirst {
		t.Fatalf("at %d: %v", now, l)
	}
	for at := l.First; at < l.First+8; at++ {
		old, there := b[port{l.Vip, at}]
		if lives := there && now <= old.expires; lives != renews || lives && old.dip != l.Dip {
			t.Fatalf("at %d: %v, but the port %d was lent: %v", now, l, at, old)
		}
		b[port{l.Vip, at}] = lent{l.Dip, l.Expires}
	}
}

// least is the least First of a vip's block none of whose ports lives.
func (b ledger) least(vip api.Addr, now int) int {
	for first := 1024; ; first += 8 {
		free := true
		for at := first; at < first+8; at++ {
			if l, there := b[port{vip, at}]; there && now <= l.expires {
				free = false
			}
		}
		if free {
			return first
		}
	}
}

// agrees holds a list against all that was lent.
func (b ledger) agrees(t *testing.T, list []api.Lease, now int) {
	t.Helper()
	if err := lease.Check(list); err != nil {
		t.Fatalf("at %d: Check(%v) = %v", now, list, err)
	}
	seen := map[port]bool{}
	for _, l := range lease.Prune(list, now) {
		for at := l.First; at < l.First+8; at++ {
			if seen[port{l.Vip, at}] {
				t.Fatalf("at %d the port %d of %v is in two leases that live: %v", now, at, l.Vip, list)
			}
			seen[port{l.Vip, at}] = true
		}
	}
	for p, l := range b {
		if now <= l.expires {
			found(t, list, p.vip, p.port, now, let(p.vip, p.port/8*8, l.dip, l.expires))
			found(t, list, p.vip, p.port, l.expires, let(p.vip, p.port/8*8, l.dip, l.expires))
		}
		notFound(t, list, p.vip, p.port, max(now, l.expires+1))
		delete(seen, p)
	}
	if len(seen) > 0 {
		t.Fatalf("at %d there are ports that nobody was lent: %v", now, seen)
	}
}

// grant lends by the ledger, and wants the same of the list.
func (b ledger) grant(t *testing.T, list []api.Lease, vip, dip api.Addr, now int) []api.Lease {
	t.Helper()
	if b.count(dip, now) >= 4*8 {
		notGranted(t, list, vip, dip, now, api.ErrQuota)
		return list
	}
	list = granted(t, list, vip, dip, now, b.least(vip, now))
	b.write(t, let(vip, b.least(vip, now), dip, now+64), now, false)
	if got := len(lease.Of(list, dip, now)); got > 4 || 8*got != b.count(dip, now) {
		t.Fatalf("at %d the machine %v has %d leases", now, dip, got)
	}
	return list
}

// renew lends for longer by the ledger, and wants the same of the list.
func (b ledger) renew(t *testing.T, list []api.Lease, vip api.Addr, first int, dip api.Addr, now int) []api.Lease {
	t.Helper()
	l, there := b[port{vip, first}]
	if !there || first%8 != 0 || l.dip != dip || now > l.expires {
		notRenewed(t, list, vip, first, dip, now, api.ErrGone)
		return list
	}
	b.write(t, let(vip, first, dip, now+64), now, true)
	return renewed(t, list, vip, first, dip, now)
}

func TestOneMachineAPort(t *testing.T) {
	vips := []api.Addr{vipA, vipB, 0x0b000000}
	for seed := range uint64(60) {
		g := generator(100 + seed)
		var list []api.Lease
		b := ledger{}
		now, machines, pace := g.IntN(3), 1+g.IntN(6), 1+g.IntN(30)
		for range 150 {
			now += max(0, g.IntN(pace)-g.IntN(pace))
			vip, who := vips[g.IntN(len(vips))], dip(g.IntN(machines))
			switch g.IntN(5) {
			case 0, 1:
				list = b.grant(t, list, vip, who, now)
			case 2, 3:
				list = b.renew(t, list, vip, 1024+8*g.IntN(2*machines), who, now)
			default:
				list = b.renew(t, list, vip, 1020+g.IntN(40), who, now)
			}
			if g.IntN(20) == 0 {
				list = lease.Prune(list, now)
			}
			b.agrees(t, list, now)
		}
	}
}

// All machines ask for as much as they get, at the last times that there are.
func TestAllMachinesAtTheLastTimes(t *testing.T) {
	var list []api.Lease
	b := ledger{}
	for round := range 5 {
		for n := range 128 {
			list = b.grant(t, list, vipA, dip(n), lastTime-65+round)
		}
	}
	b.agrees(t, list, lastTime-61)
	if len(list) != 512 || list[511].First != 1024+511*8 {
		t.Fatalf("%d leases", len(list))
	}
	for n := range 128 {
		list = b.renew(t, list, vipA, 1024+8*n, dip(n), lastTime-1)
		list = b.renew(t, list, vipA, 1024+8*(n+128), dip(n), lastTime)
	}
	b.agrees(t, list, lastTime)
	for n := range 128 {
		list = b.grant(t, list, vipA, dip(127-n), lastTime)
		list = b.grant(t, list, vipA, dip(127-n), lastTime)
	}
	b.agrees(t, list, lastTime)
}

// P12.4

// spare is a copy of a list with room behind it, in which there is more.
func spare(list []api.Lease) ([]api.Lease, []api.Lease) {
	room := slices.Concat(list, slices.Repeat([]api.Lease{let(9, 9, 9, 9)}, 3))
	return room[:len(list)], room
}

func TestWhatIsHandedInStaysAsItIs(t *testing.T) {
	list := []api.Lease{
		let(vipA, 1024, dip(0), 20),
		let(vipA, 1032, dip(1), 9),
		let(vipB, 1024, dip(0), 30),
	}
	calls := map[string]func(list []api.Lease) []api.Lease{
		"Check":          func(list []api.Lease) []api.Lease { _ = lease.Check(list); return nil },
		"Grant, new":     func(list []api.Lease) []api.Lease { l, _, _ := lease.Grant(list, vipB, dip(2), 5); return l },
		"Grant, last":    func(list []api.Lease) []api.Lease { l, _, _ := lease.Grant(list, 0x03030303, dip(2), 5); return l },
		"Grant, first":   func(list []api.Lease) []api.Lease { l, _, _ := lease.Grant(list, vipA-1, dip(2), 5); return l },
		"Grant, older":   func(list []api.Lease) []api.Lease { l, _, _ := lease.Grant(list, vipA, dip(2), 10); return l },
		"Grant, refused": func(list []api.Lease) []api.Lease { l, _, _ := lease.Grant(list, 0, dip(2), 10); return l },
		"Renew":          func(list []api.Lease) []api.Lease { l, _, _ := lease.Renew(list, vipA, 1024, dip(0), 5); return l },
		"Renew, last":    func(list []api.Lease) []api.Lease { l, _, _ := lease.Renew(list, vipB, 1024, dip(0), 5); return l },
		"Renew, refused": func(list []api.Lease) []api.Lease { l, _, _ := lease.Renew(list, vipB, 1024, dip(1), 5); return l },
		"Find":           func(list []api.Lease) []api.Lease { lease.Find(list, vipA, 1024, 5); return nil },
		"Of":             func(list []api.Lease) []api.Lease { return lease.Of(list, dip(0), 5) },
		"Prune":          func(list []api.Lease) []api.Lease { return lease.Prune(list, 5) },
		"Prune, less":    func(list []api.Lease) []api.Lease { return lease.Prune(list, 10) },
	}
	for name, call := range calls {
		given, room := spare(list)
		before := slices.Clone(room)
		answer := call(given)
		if !slices.Equal(room, before) {
			t.Errorf("%s changed what it was handed: %v", name, room)
		}
		want := slices.Clone(answer)
		for i := range room {
			room[i] = api.Lease{}
		}
		if !slices.Equal(answer, want) {
			t.Errorf("%s keeps what it was handed", name)
		}
		copy(room, before)
		for i := range answer {
			answer[i] = let(7, 7, 7, 7)
		}
		_ = append(answer, let(8, 8, 8, 8))
		if !slices.Equal(room, before) {
			t.Errorf("a change of what %s answered changed what it was handed: %v", name, room)
		}
	}
}

func TestAnswersAreNewMemory(t *testing.T) {
	list := []api.Lease{let(vipA, 1024, dip(0), 20), let(vipB, 1024, dip(0), 30)}
	for _, ask := range []func() []api.Lease{
		func() []api.Lease { return lease.Of(list, dip(0), 5) },
		func() []api.Lease { return lease.Prune(list, 5) },
		func() []api.Lease { l, _, _ := lease.Grant(list, vipA, dip(1), 5); return l },
		func() []api.Lease { l, _, _ := lease.Renew(list, vipA, 1024, dip(0), 5); return l },
	} {
		one := ask()
		want := slices.Clone(one)
		for i := range one {
			one[i] = api.Lease{}
		}
		if two := ask(); !slices.Equal(two, want) || len(two) == 0 {
			t.Errorf("asked once more: %v, want %v", two, want)
		}
	}
}

// A list with room behind it stays the beginning of two lists that come of it.
func TestTwoListsOfOne(t *testing.T) {
	given, _ := spare([]api.Lease{let(vipA, 1024, dip(0), 20)})
	one := granted(t, given, vipA, dip(1), 5, 1032)
	two := granted(t, given, vipA, dip(2), 6, 1032)
	found(t, one, vipA, 1032, 5, let(vipA, 1032, dip(1), 69))
	found(t, two, vipA, 1032, 5, let(vipA, 1032, dip(2), 70))
	three := renewed(t, one, vipA, 1024, dip(0), 9)
	found(t, one, vipA, 1024, 5, let(vipA, 1024, dip(0), 20))
	found(t, three, vipA, 1024, 5, let(vipA, 1024, dip(0), 73))
}
