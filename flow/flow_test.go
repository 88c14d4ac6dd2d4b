package flow_test

import (
	"errors"
	"math"
	"math/rand/v2"
	"slices"
	"testing"

	"towpath/addr"
	"towpath/api"
	"towpath/flow"
)

// How many ticks an entry stays without a packet, as the chapter says it.
const (
	closingStay   = 5
	trustedStay   = 60
	untrustedStay = 10
)

var (
	notQuotas = []int{-1, -2, -4096, 4097, 4098, 8192, 1 << 20, 1 << 32, 1<<32 + 1, 1<<32 + 4096, math.MaxInt, math.MinInt, math.MinInt + 1}
	notTimes  = []int{-1, -2, -60, api.MaxTime + 1, api.MaxTime + 2, 2 * api.MaxTime, 1 << 62, math.MaxInt, math.MaxInt - 1, math.MinInt, math.MinInt + 1}
	farNumber = []int{0, 1, -1, 255, 256, 1 << 32, -1 << 32, math.MaxInt, math.MinInt}
)

// notForm is flows that aren't in form.
func notForm() []api.Flow {
	rows := []api.Flow{{}}
	for _, proto := range append([]int{0, 1, 4, 5, 7, 16, 18, 256 + 6, 256 + 17, 1<<32 + 6}, farNumber...) {
		rows = append(rows, api.Flow{Proto: proto, Src: 1, SrcPort: 2, Dst: 3, DstPort: 4})
	}
	for _, port := range []int{-1, -65536, 65536, 65537, 1 << 32, 1<<32 + 80, math.MaxInt, math.MinInt} {
		for _, proto := range []int{api.TCP, api.UDP} {
			rows = append(rows, api.Flow{Proto: proto, SrcPort: port}, api.Flow{Proto: proto, DstPort: port})
		}
	}
	return rows
}

func generator(seed uint64) *rand.Rand {
	return rand.New(rand.NewPCG(seed, 11))
}

// tcp is one of many flows of TCP; a greater port makes a greater flow.
func tcp(port int) api.Flow {
	return api.Flow{Proto: api.TCP, Src: 0x08080808, SrcPort: port, Dst: 0x01010101, DstPort: 80}
}

// udp is one of many flows of UDP, greater than all those of tcp.
func udp(port int) api.Flow {
	return api.Flow{Proto: api.UDP, Src: 0x08080808, SrcPort: port, Dst: 0x01010101, DstPort: 80}
}

// fresh is the entry that Put makes of a flow without one.
func fresh(f api.Flow, dip api.Addr, epoch, last int) api.Entry {
	return api.Entry{Flow: f, Dip: dip, Epoch: epoch, Last: last}
}

// made is a table that there must be.
func made(t *testing.T, trusted, untrusted int) *flow.Table {
	t.Helper()
	table, err := flow.New(trusted, untrusted)
	if table == nil || err != nil {
		t.Fatalf("New(%d, %d) = %v, %v", trusted, untrusted, table, err)
	}
	return table
}

// put wants no entry to be put out.
func put(t *testing.T, table *flow.Table, f api.Flow, dip api.Addr, epoch, now int) {
	t.Helper()
	if out, full, err := table.Put(f, dip, epoch, now); out != (api.Entry{}) || full || err != nil {
		t.Fatalf("Put(%v, %v, %d, %d) = %v, %v, %v, want none put out", f, dip, epoch, now, out, full, err)
	}
}

// putsOut wants an entry to be put out.
func putsOut(t *testing.T, table *flow.Table, f api.Flow, now int, want api.Entry) {
	t.Helper()
	if out, full, err := table.Put(f, 1, 1, now); out != want || !full || err != nil {
		t.Fatalf("Put(%v, 1, 1, %d) = %v, %v, %v, want %v, true", f, now, out, full, err, want)
	}
}

func notPut(t *testing.T, table *flow.Table, f api.Flow, now int, want error) {
	t.Helper()
	if out, full, err := table.Put(f, 9, 9, now); out != (api.Entry{}) || full || !errors.Is(err, want) {
		t.Fatalf("Put(%v, 9, 9, %d) = %v, %v, %v, want %v", f, now, out, full, err, want)
	}
}

func touch(t *testing.T, table *flow.Table, f api.Flow, flags, now int) {
	t.Helper()
	if !table.Touch(f, flags, now) {
		t.Fatalf("Touch(%v, %d, %d) = false", f, flags, now)
	}
}

func notTouched(t *testing.T, table *flow.Table, f api.Flow, flags, now int) {
	t.Helper()
	if table.Touch(f, flags, now) {
		t.Fatalf("Touch(%v, %d, %d) = true", f, flags, now)
	}
}

func removed(t *testing.T, table *flow.Table, want int, flows ...api.Flow) {
	t.Helper()
	if got := table.Remove(flows...); got != want {
		t.Fatalf("Remove(%.200v) = %d, want %d", flows, got, want)
	}
}

func expired(t *testing.T, table *flow.Table, now int, want ...api.Flow) {
	t.Helper()
	if got := table.Expire(now); !slices.Equal(got, want) {
		t.Fatalf("Expire(%d) = %.400v, want %.400v", now, got, want)
	}
}

// has asks for an entry that is there.
func has(t *testing.T, table *flow.Table, want api.Entry) {
	t.Helper()
	if e, ok := table.Get(want.Flow); e != want || !ok {
		t.Fatalf("Get(%v) = %v, %v, want %v, true", want.Flow, e, ok, want)
	}
}

// misses asks for flows without entries.
func misses(t *testing.T, table *flow.Table, flows ...api.Flow) {
	t.Helper()
	for _, f := range flows {
		if e, ok := table.Get(f); e != (api.Entry{}) || ok {
			t.Fatalf("Get(%v) = %v, %v, want none", f, e, ok)
		}
	}
}

func counts(t *testing.T, table *flow.Table, trusted, untrusted int) {
	t.Helper()
	if a, b := table.Len(); a != trusted || b != untrusted {
		t.Fatalf("Len() = %d, %d, want %d, %d", a, b, trusted, untrusted)
	}
}

// holds asks all that can be asked of a table without a change of it: it has these entries, given in the order of their flows, and no others.
func holds(t *testing.T, table *flow.Table, list ...api.Entry) {
	t.Helper()
	if all := table.All(); !slices.Equal(all, list) {
		t.Fatalf("All() = %.600v, want %.600v", all, list)
	}
	trusted := 0
	for _, e := range list {
		has(t, table, e)
		if e.Trusted {
			trusted++
		}
	}
	counts(t, table, trusted, len(list)-trusted)
}

// holdsNone asks a table without entries for all things.
func holdsNone(t *testing.T, table *flow.Table) {
	t.Helper()
	some := append(notForm(), tcp(0), tcp(1), udp(0), udp(1))
	holds(t, table)
	misses(t, table, some...)
	removed(t, table, 0)
	removed(t, table, 0, some...)
	for _, f := range some {
		notTouched(t, table, f, api.ACK, 1)
	}
	for _, now := range append([]int{0, 1, 1000, api.MaxTime}, notTimes...) {
		expired(t, table, now)
	}
	holds(t, table)
}

// P11.1

func TestExample(t *testing.T) {
	a, b, c, d := tcp(1), tcp(2), tcp(3), tcp(4)
	table := made(t, 1, 2)
	put(t, table, a, 1, 1, 0)
	put(t, table, b, 1, 1, 1)
	putsOut(t, table, c, 2, fresh(a, 1, 1, 0))
	touch(t, table, b, api.ACK, 3)
	trusted := fresh(b, 1, 1, 3)
	trusted.Trusted = true
	put(t, table, d, 1, 1, 4)
	holds(t, table, trusted, fresh(c, 1, 1, 2), fresh(d, 1, 1, 4))
	expired(t, table, 14, c)
	holds(t, table, trusted, fresh(d, 1, 1, 4))
	touch(t, table, b, api.FIN, 5)
	trusted.Closing, trusted.Last = true, 5
	has(t, table, trusted)
	expired(t, table, 11, b)
	holds(t, table, fresh(d, 1, 1, 4))
}

func TestNewTakesAllQuotas(t *testing.T) {
	for n := range api.MaxFlows + 1 {
		holds(t, made(t, n, api.MaxFlows-n))
	}
	for _, trusted := range []int{0, 1, api.MaxFlows} {
		for _, untrusted := range []int{0, 1, api.MaxFlows} {
			holdsNone(t, made(t, trusted, untrusted))
		}
	}
}

func TestNewRefusesOtherQuotas(t *testing.T) {
	refused := func(trusted, untrusted int) {
		if table, err := flow.New(trusted, untrusted); table != nil || !errors.Is(err, api.ErrRange) {
			t.Errorf("New(%d, %d) = %v, %v, want nil, %v", trusted, untrusted, table, err, api.ErrRange)
		}
	}
	for _, n := range notQuotas {
		for _, good := range []int{0, 1, api.MaxFlows} {
			refused(n, good)
			refused(good, n)
		}
		for _, m := range notQuotas {
			refused(n, m)
		}
	}
}

func TestPutTakesWhateverIsInForm(t *testing.T) {
	table := made(t, 0, 1)
	for _, proto := range []int{api.TCP, api.UDP} {
		for _, port := range []int{0, 1, 80, 65535} {
			for _, a := range []api.Addr{0, 1, 0x0a010002, math.MaxUint32} {
				f := api.Flow{Proto: proto, Src: a, SrcPort: port, Dst: ^a, DstPort: 65535 - port}
				for _, now := range []int{0, 1, 1 << 32, api.MaxTime - 1, api.MaxTime} {
					for _, epoch := range farNumber {
						put(t, table, f, a, epoch, now)
						holds(t, table, fresh(f, a, epoch, now))
					}
				}
				removed(t, table, 1, f)
			}
		}
	}
	holdsNone(t, table)
}

func TestPutRefusesFlowsNotInForm(t *testing.T) {
	for _, table := range []*flow.Table{made(t, 2, 2), made(t, 2, 0)} {
		for _, f := range notForm() {
			for _, now := range append([]int{0, 5}, notTimes...) {
				notPut(t, table, f, now, api.ErrForm)
			}
		}
		holdsNone(t, table)
	}
}

func TestPutRefusesOtherTimes(t *testing.T) {
	for _, now := range notTimes {
		notPut(t, made(t, 2, 0), tcp(1), now, api.ErrRange)
		table := made(t, 1, 2)
		put(t, table, tcp(1), 7, 8, 5)
		put(t, table, tcp(2), 7, 8, 5)
		touch(t, table, tcp(2), api.FIN, 5)
		list := table.All()
		for port := range 4 {
			notPut(t, table, tcp(port), now, api.ErrRange)
		}
		holds(t, table, list...)
	}
}

func TestPutWithoutAnyUntrusted(t *testing.T) {
	for _, trusted := range []int{0, 1, api.MaxFlows} {
		table := made(t, trusted, 0)
		for _, now := range []int{0, 1, api.MaxTime} {
			notPut(t, table, tcp(1), now, api.ErrFull)
			notPut(t, table, udp(1), now, api.ErrFull)
		}
		holdsNone(t, table)
	}
}

func TestPutAgain(t *testing.T) {
	table := made(t, 1, 2)
	put(t, table, tcp(1), 1, 2, 30)
	put(t, table, tcp(2), 1, 2, 31)
	put(t, table, tcp(1), 3, 4, 32)
	holds(t, table, fresh(tcp(1), 3, 4, 32), fresh(tcp(2), 1, 2, 31))
	put(t, table, tcp(2), 5, -6, 7)
	holds(t, table, fresh(tcp(1), 3, 4, 32), fresh(tcp(2), 5, -6, 7))
	put(t, table, tcp(2), 0, 0, 0)
	holds(t, table, fresh(tcp(1), 3, 4, 32), fresh(tcp(2), 0, 0, 0))
	putsOut(t, table, tcp(3), 33, fresh(tcp(2), 0, 0, 0))
}

func TestPutAgainKeepsTrust(t *testing.T) {
	table := made(t, 1, 1)
	put(t, table, tcp(1), 1, 2, 3)
	touch(t, table, tcp(1), api.RST, 4)
	put(t, table, tcp(2), 1, 2, 5)
	has(t, table, api.Entry{Flow: tcp(1), Dip: 1, Epoch: 2, Trusted: true, Closing: true, Last: 4})
	put(t, table, tcp(1), 6, 7, 8)
	kept := api.Entry{Flow: tcp(1), Dip: 6, Epoch: 7, Trusted: true, Last: 8}
	holds(t, table, kept, fresh(tcp(2), 1, 2, 5))
	touch(t, table, tcp(2), api.ACK, 9)
	holds(t, table, kept, fresh(tcp(2), 1, 2, 9))
}

func TestPutAgainEndsTheClosing(t *testing.T) {
	table := made(t, 0, 1)
	put(t, table, tcp(1), 1, 2, 3)
	touch(t, table, tcp(1), api.FIN, 4)
	has(t, table, api.Entry{Flow: tcp(1), Dip: 1, Epoch: 2, Closing: true, Last: 4})
	put(t, table, tcp(1), 1, 2, 4)
	holds(t, table, fresh(tcp(1), 1, 2, 4))
	expired(t, table, 14)
	expired(t, table, 15, tcp(1))
}

func TestTheLeastLastIsPutOut(t *testing.T) {
	g := generator(1)
	for range 20 {
		table := made(t, 3, 40)
		last := map[int]int{}
		for at, port := range g.Perm(40) {
			put(t, table, tcp(port), 5, 6, 3*at)
			last[port] = 3 * at
		}
		for _, port := range g.Perm(40)[:15] {
			last[port] = 3*g.IntN(40) + 1 + port*1000
			touch(t, table, tcp(port), api.SYN, last[port])
		}
		for round := range 40 {
			least := -1
			for port, at := range last {
				if least < 0 || at < last[least] {
					least = port
				}
			}
			putsOut(t, table, tcp(100+round), 1<<20, fresh(tcp(least), 5, 6, last[least]))
			misses(t, table, tcp(least))
			delete(last, least)
		}
		counts(t, table, 0, 40)
	}
}

// rising is flows of which each differs in one field from the one ahead of it, if not in those that count less.
func rising() []api.Flow {
	return []api.Flow{
		{Proto: api.TCP},
		{Proto: api.TCP, DstPort: 1},
		{Proto: api.TCP, DstPort: 65535},
		{Proto: api.TCP, Dst: 1},
		{Proto: api.TCP, Dst: math.MaxUint32},
		{Proto: api.TCP, SrcPort: 1},
		{Proto: api.TCP, SrcPort: 65535},
		{Proto: api.TCP, Src: 1},
		{Proto: api.TCP, Src: 2, SrcPort: 4, Dst: 5, DstPort: 6},
		{Proto: api.TCP, Src: math.MaxUint32},
		{Proto: api.UDP},
		{Proto: api.UDP, DstPort: 1},
	}
}

func TestOfOneLastTheLeastFlowIsPutOut(t *testing.T) {
	g := generator(2)
	flows := rising()
	for range 50 {
		table := made(t, 0, len(flows))
		for _, i := range g.Perm(len(flows)) {
			put(t, table, flows[i], 5, 6, 7)
		}
		for i, f := range flows {
			putsOut(t, table, api.Flow{Proto: api.UDP, Src: 9, SrcPort: i}, 7, fresh(f, 5, 6, 7))
		}
	}
}

func TestWhatWasPutOutIsToldWhole(t *testing.T) {
	table := made(t, 0, 1)
	put(t, table, udp(1), 5, 6, 7)
	putsOut(t, table, tcp(1), 1, fresh(udp(1), 5, 6, 7))
	put(t, table, tcp(1), 3, 4, 8)
	touch(t, table, tcp(1), api.RST, 9)
	putsOut(t, table, tcp(2), 9, api.Entry{Flow: tcp(1), Dip: 3, Epoch: 4, Closing: true, Last: 9})
	holds(t, table, fresh(tcp(2), 1, 1, 9))
}

// Whoever is put out was there longest, not the one that comes, be its time less.
func TestWhoComesLateIsntPutOut(t *testing.T) {
	table := made(t, 0, 2)
	put(t, table, tcp(1), 5, 6, 20)
	put(t, table, tcp(2), 5, 6, 21)
	putsOut(t, table, tcp(0), 3, fresh(tcp(1), 5, 6, 20))
	holds(t, table, fresh(tcp(0), 1, 1, 3), fresh(tcp(2), 5, 6, 21))
}

func TestTouchOfNone(t *testing.T) {
	table := made(t, 2, 2)
	put(t, table, tcp(1), 5, 6, 7)
	for _, f := range append(notForm(), tcp(2), udp(1), addr.Reverse(tcp(1))) {
		notTouched(t, table, f, api.ACK, 8)
		misses(t, table, f)
	}
	holds(t, table, fresh(tcp(1), 5, 6, 7))
}

func TestTouchAtOtherTimes(t *testing.T) {
	table := made(t, 2, 2)
	put(t, table, tcp(1), 5, 6, 7)
	put(t, table, udp(1), 5, 6, 7)
	for _, now := range notTimes {
		for flags := range 32 {
			notTouched(t, table, tcp(1), flags, now)
			notTouched(t, table, udp(1), flags, now)
		}
	}
	holds(t, table, fresh(tcp(1), 5, 6, 7), fresh(udp(1), 5, 6, 7))
}

func TestTouchSaysWhenItWasSeen(t *testing.T) {
	table := made(t, 0, 1)
	put(t, table, tcp(1), 5, 6, 7)
	for _, now := range []int{8, 7, 0, 1 << 32, api.MaxTime, api.MaxTime - 1, 1} {
		touch(t, table, tcp(1), api.ACK, now)
		holds(t, table, fresh(tcp(1), 5, 6, now))
	}
}

// touched is what the chapter says that a touch makes of an entry.
func touched(e api.Entry, flags, now int, room bool) api.Entry {
	bit := func(flag int) bool { return e.Flow.Proto == api.TCP && flags&flag == flag }
	e.Last = now
	if bit(api.FIN) || bit(api.RST) {
		e.Closing = true
	} else if bit(api.SYN) {
		e.Closing = false
	}
	if !bit(api.SYN) && room {
		e.Trusted = true
	}
	return e
}

// in is a table in which one flow has an entry of a kind, and another one may be trusted just if there is room.
func in(t *testing.T, f api.Flow, trusted, closing, room bool) *flow.Table {
	t.Helper()
	table := made(t, 1, 3)
	if trusted {
		put(t, table, f, 5, 6, 7)
		touch(t, table, f, api.ACK, 7)
	}
	if !room && !trusted {
		put(t, table, tcp(9), 5, 6, 7)
		touch(t, table, tcp(9), api.ACK, 7)
	}
	if !trusted {
		put(t, table, f, 5, 6, 7)
	}
	if closing && trusted {
		touch(t, table, f, api.FIN, 7)
	}
	if closing && !trusted {
		touch(t, table, f, api.FIN|api.SYN, 7)
	}
	has(t, table, api.Entry{Flow: f, Dip: 5, Epoch: 6, Trusted: trusted, Closing: closing, Last: 7})
	return table
}

func TestTouchByFlags(t *testing.T) {
	flags := append([]int{-2, -3, -4, -5, -7, -8, -32, 1<<32 + 2, 1 << 40, 256, 256 + 1}, farNumber...)
	for n := range 64 {
		flags = append(flags, n)
	}
	for _, f := range []api.Flow{tcp(1), udp(1)} {
		for kind := range 8 {
			trusted, closing, room := kind&1 > 0, kind&2 > 0 && f.Proto == api.TCP, kind&4 > 0
			for _, n := range flags {
				table := in(t, f, trusted, closing, room)
				e, _ := table.Get(f)
				touch(t, table, f, n, 9)
				has(t, table, touched(e, n, 9, room))
			}
		}
	}
}

func TestTrustTakesAPlace(t *testing.T) {
	table := made(t, 2, 4)
	for port := range 4 {
		put(t, table, tcp(port), 5, 6, port)
	}
	for port := range 4 {
		touch(t, table, tcp(port), api.ACK, 9)
	}
	counts(t, table, 2, 2)
	for port := range 4 {
		has(t, table, api.Entry{Flow: tcp(port), Dip: 5, Epoch: 6, Trusted: port < 2, Last: 9})
	}
	put(t, table, tcp(4), 5, 6, 10)
	put(t, table, tcp(5), 5, 6, 10)
	putsOut(t, table, tcp(6), 10, fresh(tcp(2), 5, 6, 9))
	counts(t, table, 2, 4)
	touch(t, table, tcp(0), api.SYN, 11)
	touch(t, table, tcp(1), api.RST, 11)
	touch(t, table, tcp(3), api.ACK, 11)
	counts(t, table, 2, 4)
	has(t, table, fresh(tcp(3), 5, 6, 11))
}

func TestRemove(t *testing.T) {
	table := made(t, 2, 5)
	for port := range 5 {
		put(t, table, tcp(port), 5, 6, port)
	}
	removed(t, table, 0)
	removed(t, table, 0, tcp(5), udp(1), addr.Reverse(tcp(1)))
	removed(t, table, 0, notForm()...)
	counts(t, table, 0, 5)
	removed(t, table, 1, tcp(2), tcp(2), tcp(9), tcp(2))
	removed(t, table, 0, tcp(2))
	removed(t, table, 2, tcp(3), api.Flow{}, tcp(0), tcp(3))
	holds(t, table, fresh(tcp(1), 5, 6, 1), fresh(tcp(4), 5, 6, 4))
	removed(t, table, 2, tcp(4), tcp(1))
	holdsNone(t, table)
}

func TestRemoveMakesRoom(t *testing.T) {
	table := made(t, 1, 1)
	for round := range 20 {
		a, b := tcp(2*round), tcp(2*round+1)
		put(t, table, a, 5, 6, 7)
		touch(t, table, a, api.ACK, 7)
		put(t, table, b, 5, 6, 7)
		touch(t, table, b, api.ACK, 7)
		counts(t, table, 1, 1)
		removed(t, table, 1, a, a)
		counts(t, table, 0, 1)
		touch(t, table, b, api.ACK, 7)
		counts(t, table, 1, 0)
		put(t, table, a, 5, 6, 7)
		counts(t, table, 1, 1)
		removed(t, table, 2, a, b)
		holds(t, table)
	}
}

// What was removed and is put again is as if it had never been there.
func TestRemoveForgets(t *testing.T) {
	table := made(t, 1, 1)
	put(t, table, tcp(1), 5, 6, 7)
	touch(t, table, tcp(1), api.RST, 8)
	removed(t, table, 1, tcp(1))
	put(t, table, tcp(1), 9, 10, 11)
	holds(t, table, fresh(tcp(1), 9, 10, 11))
}

func TestExpireByKinds(t *testing.T) {
	for kind := range 4 {
		trusted, closing := kind&1 > 0, kind&2 > 0
		stay := untrustedStay
		if trusted {
			stay = trustedStay
		}
		if closing {
			stay = closingStay
		}
		table := in(t, tcp(1), trusted, closing, true)
		e, _ := table.Get(tcp(1))
		for now := range 7 + stay + 1 {
			expired(t, table, now)
			has(t, table, e)
		}
		expired(t, table, 7+stay+1, tcp(1))
		holdsNone(t, table)
		for _, now := range []int{7 + stay + 2, 7 + 61, 1 << 32, api.MaxTime} {
			table := in(t, tcp(1), trusted, closing, true)
			expired(t, table, now, tcp(1))
			holdsNone(t, table)
		}
	}
}

func TestExpireByLast(t *testing.T) {
	table := made(t, 0, 1)
	put(t, table, udp(1), 5, 6, 0)
	expired(t, table, 10)
	touch(t, table, udp(1), 0, 10)
	expired(t, table, 20)
	put(t, table, udp(1), 5, 6, 15)
	expired(t, table, 25)
	expired(t, table, 26, udp(1))
	put(t, table, udp(1), 5, 6, api.MaxTime)
	expired(t, table, 0)
	expired(t, table, api.MaxTime)
	touch(t, table, udp(1), 0, api.MaxTime-10)
	expired(t, table, api.MaxTime)
	touch(t, table, udp(1), 0, api.MaxTime-11)
	expired(t, table, api.MaxTime, udp(1))
	holdsNone(t, table)
}

func TestExpireAtOtherTimes(t *testing.T) {
	table := made(t, 1, 2)
	put(t, table, tcp(1), 5, 6, 0)
	touch(t, table, tcp(1), api.ACK, 0)
	put(t, table, tcp(2), 5, 6, 0)
	touch(t, table, tcp(2), api.FIN, 0)
	put(t, table, tcp(3), 5, 6, 0)
	list := table.All()
	for _, now := range notTimes {
		expired(t, table, now)
	}
	holds(t, table, list...)
	expired(t, table, api.MaxTime, tcp(1), tcp(2), tcp(3))
}

func TestExpireTellsFlowsInOrder(t *testing.T) {
	g := generator(3)
	flows := rising()
	for range 50 {
		table := made(t, 4, len(flows))
		for _, i := range g.Perm(len(flows)) {
			put(t, table, flows[i], 5, 6, i)
			if i%3 == 0 {
				touch(t, table, flows[i], api.ACK, i)
			}
		}
		expired(t, table, 100, flows...)
		holds(t, table)
	}
}

func TestExpireMakesRoom(t *testing.T) {
	table := made(t, 1, 1)
	for round := range 20 {
		now := 1000 * round
		a, b := tcp(2*round), tcp(2*round+1)
		put(t, table, a, 5, 6, now)
		touch(t, table, a, api.ACK, now)
		put(t, table, b, 5, 6, now+55)
		expired(t, table, now+61, a)
		touch(t, table, b, api.ACK, now+62)
		counts(t, table, 1, 0)
		put(t, table, a, 5, 6, now+62)
		expired(t, table, now+73, a)
		put(t, table, a, 5, 6, now+74)
		expired(t, table, now+123, a, b)
		holds(t, table)
	}
}

func TestAllTellsEntriesInOrder(t *testing.T) {
	g := generator(4)
	flows := rising()
	for range 50 {
		table := made(t, 0, len(flows))
		list := make([]api.Entry, len(flows))
		for _, i := range g.Perm(len(flows)) {
			list[i] = fresh(flows[i], api.Addr(g.Uint32()), g.IntN(9), g.IntN(9))
			put(t, table, flows[i], list[i].Dip, list[i].Epoch, list[i].Last)
		}
		holds(t, table, list...)
	}
}

func TestNilIsEmptyWithoutRoom(t *testing.T) {
	var table *flow.Table
	holdsNone(t, table)
	for _, f := range notForm() {
		notPut(t, table, f, 1, api.ErrForm)
		notPut(t, table, f, -1, api.ErrForm)
	}
	for _, now := range notTimes {
		notPut(t, table, tcp(1), now, api.ErrRange)
	}
	for _, now := range []int{0, 1, api.MaxTime} {
		notPut(t, table, tcp(1), now, api.ErrFull)
		notPut(t, table, udp(1), now, api.ErrFull)
	}
	holdsNone(t, table)
}

func TestTablesAreApart(t *testing.T) {
	one, other := made(t, 1, 1), made(t, 1, 1)
	put(t, one, tcp(1), 5, 6, 7)
	holdsNone(t, other)
	put(t, other, tcp(1), 8, 9, 10)
	touch(t, other, tcp(1), api.FIN, 11)
	put(t, other, tcp(2), 8, 9, 10)
	holds(t, one, fresh(tcp(1), 5, 6, 7))
	removed(t, one, 1, tcp(1), tcp(2))
	counts(t, other, 1, 1)
	expired(t, one, 100)
	counts(t, other, 1, 1)
}

func TestAFullTable(t *testing.T) {
	table := made(t, api.MaxFlows, api.MaxFlows)
	ports := generator(5).Perm(api.MaxFlows)
	for _, port := range ports {
		put(t, table, tcp(port), 5, 6, 7)
		touch(t, table, tcp(port), api.ACK, 7)
	}
	for _, port := range ports {
		put(t, table, udp(port), 5, 6, 7)
	}
	counts(t, table, api.MaxFlows, api.MaxFlows)
	touch(t, table, udp(0), 0, 6)
	counts(t, table, api.MaxFlows, api.MaxFlows)
	for round := range 100 {
		last := 7
		if round == 0 {
			last = 6
		}
		putsOut(t, table, tcp(api.MaxFlows+round), 8, fresh(udp(round), 5, 6, last))
	}
	counts(t, table, api.MaxFlows, api.MaxFlows)
	if n := len(table.Expire(api.MaxTime)); n != 2*api.MaxFlows {
		t.Fatalf("%d flows expired, want %d", n, 2*api.MaxFlows)
	}
	holdsNone(t, table)
}

// model is what the chapter says of a table, as a list in which each flow is looked for.
type model struct {
	trusted, untrusted int
	list               []api.Entry
}

func (m *model) place(f api.Flow) int {
	return slices.IndexFunc(m.list, func(e api.Entry) bool { return e.Flow == f })
}

func (m *model) count(trusted bool) int {
	count := 0
	for _, e := range m.list {
		if e.Trusted == trusted {
			count++
		}
	}
	return count
}

// sort lays the entries in the order of their flows.
func (m *model) sort() {
	for i := range m.list {
		for j := i; j > 0 && addr.Less(m.list[j].Flow, m.list[j-1].Flow); j-- {
			m.list[j], m.list[j-1] = m.list[j-1], m.list[j]
		}
	}
}

// victim is the place of the entry that is put out for a new one, of a list in order; -1, if none is.
func (m *model) victim() int {
	victim := -1
	for i, e := range m.list {
		if !e.Trusted && (victim < 0 || e.Last < m.list[victim].Last) {
			victim = i
		}
	}
	if m.count(false) < m.untrusted {
		return -1
	}
	return victim
}

func (m *model) put(f api.Flow, dip api.Addr, epoch, now int) (api.Entry, bool, error) {
	switch {
	case addr.Check(f) != nil:
		return api.Entry{}, false, api.ErrForm
	case !isTime(now):
		return api.Entry{}, false, api.ErrRange
	}
	if i := m.place(f); i >= 0 {
		e := &m.list[i]
		e.Dip, e.Epoch, e.Last, e.Closing = dip, epoch, now, false
		return api.Entry{}, false, nil
	}
	if m.untrusted == 0 {
		return api.Entry{}, false, api.ErrFull
	}
	m.sort()
	var out api.Entry
	victim := m.victim()
	if victim >= 0 {
		out = m.list[victim]
		m.list = slices.Delete(m.list, victim, victim+1)
	}
	m.list = append(m.list, fresh(f, dip, epoch, now))
	return out, victim >= 0, nil
}

func (m *model) touch(f api.Flow, flags, now int) bool {
	i := m.place(f)
	if i < 0 || !isTime(now) {
		return false
	}
	m.list[i] = touched(m.list[i], flags, now, m.count(true) < m.trusted)
	return true
}

func (m *model) remove(flows ...api.Flow) int {
	count := 0
	for _, f := range flows {
		if i := m.place(f); i >= 0 {
			m.list = slices.Delete(m.list, i, i+1)
			count++
		}
	}
	return count
}

func (m *model) expire(now int) []api.Flow {
	m.sort()
	var idle []api.Flow
	for _, e := range m.list {
		if isTime(now) && isIdle(e, now) {
			idle = append(idle, e.Flow)
		}
	}
	m.remove(idle...)
	return idle
}

func isIdle(e api.Entry, now int) bool {
	gone := now - e.Last
	if e.Closing {
		return gone > closingStay
	}
	return gone > trustedStay || !e.Trusted && gone > untrustedStay
}

func isTime(now int) bool {
	return now >= 0 && now <= api.MaxTime
}

// someFlow is mostly one of a few flows; now and then one that isn't in form.
func someFlow(g *rand.Rand) api.Flow {
	switch n := g.IntN(40); {
	case n == 0:
		rows := notForm()
		return rows[g.IntN(len(rows))]
	case n < 10:
		return udp(g.IntN(12))
	}
	return tcp(g.IntN(24))
}

// someTime is mostly a time near to what is now; now and then a far one, or none.
func someTime(g *rand.Rand, now int) int {
	switch g.IntN(60) {
	case 0:
		return notTimes[g.IntN(len(notTimes))]
	case 1:
		return api.MaxTime - g.IntN(3)
	}
	return max(0, now-g.IntN(4))
}

func someFlags(g *rand.Rand) int {
	return []int{api.ACK, api.ACK, 0, api.SYN, api.SYN | api.ACK, api.FIN, api.RST, api.FIN | api.SYN, g.IntN(64)}[g.IntN(9)]
}

// stepAsTold holds one call that changes a table against the model.
func stepAsTold(t *testing.T, table *flow.Table, m *model, g *rand.Rand, now int) {
	t.Helper()
	f, at := someFlow(g), someTime(g, now)
	switch g.IntN(9) {
	case 0, 1, 2:
		dip, epoch := api.Addr(g.Uint32()), g.IntN(100)-10
		out, full, err := table.Put(f, dip, epoch, at)
		wantOut, wantFull, want := m.put(f, dip, epoch, at)
		if out != wantOut || full != wantFull || err != want {
			t.Fatalf("Put(%v, %v, %d, %d) = %v, %v, %v, want %v, %v, %v", f, dip, epoch, at, out, full, err, wantOut, wantFull, want)
		}
	case 3, 4, 5, 6:
		flags := someFlags(g)
		if got, want := table.Touch(f, flags, at), m.touch(f, flags, at); got != want {
			t.Fatalf("Touch(%v, %d, %d) = %v, want %v", f, flags, at, got, want)
		}
	case 7:
		flows := []api.Flow{f, someFlow(g), f}[:g.IntN(4)]
		removed(t, table, m.remove(flows...), flows...)
	case 8:
		at = max(at, now)
		if at > now && g.IntN(4) > 0 {
			at = now
		}
		expired(t, table, at, m.expire(at)...)
	}
}

func TestAnyOrderOfCalls(t *testing.T) {
	quotas := []int{0, 1, 2, 3, 5, 8, 20, api.MaxFlows}
	for i, trusted := range quotas {
		for j, untrusted := range quotas {
			g := generator(uint64(100 + 10*i + j))
			table, m := made(t, trusted, untrusted), &model{trusted: trusted, untrusted: untrusted}
			now := 0
			for range 1500 {
				now += g.IntN(3)
				stepAsTold(t, table, m, g, now)
				m.sort()
				holds(t, table, m.list...)
				if f := someFlow(g); m.place(f) < 0 {
					misses(t, table, f)
				}
			}
		}
	}
}

// P11.2

func TestQuotasHold(t *testing.T) {
	for trusted := range 5 {
		for untrusted := range 5 {
			g := generator(uint64(1000 + 10*trusted + untrusted))
			table := made(t, trusted, untrusted)
			most := [2]int{}
			for now := range 3000 {
				switch f, n := someFlow(g), g.IntN(30); {
				case n == 0:
					table.Remove(f)
				case n == 1:
					table.Expire(now)
				case n < 14:
					putUnderQuotas(t, table, f, now)
				default:
					table.Touch(f, someFlags(g), now)
				}
				a, b := table.Len()
				most = [2]int{max(most[0], a), max(most[1], b)}
			}
			want := [2]int{trusted, untrusted}
			if untrusted == 0 {
				want = [2]int{}
			}
			if most != want {
				t.Errorf("at most %v entries were there, want %v", most, want)
			}
		}
	}
}

// putUnderQuotas wants all trusted entries to be there when Put answers, and none of them put out.
func putUnderQuotas(t *testing.T, table *flow.Table, f api.Flow, now int) {
	t.Helper()
	before := table.All()
	out, full, _ := table.Put(f, 5, 6, now)
	if out.Trusted {
		t.Fatalf("Put(%v) puts %v out", f, out)
	}
	for _, e := range before {
		if e.Trusted && e.Flow != f {
			has(t, table, e)
		} else if after, ok := table.Get(e.Flow); ok == (full && e == out) || after.Trusted != e.Trusted {
			t.Fatalf("Put(%v) puts %v, %v out; %v is %v then", f, out, full, e, after)
		}
	}
}

func TestTrustedOnesOutliveAFloodOfFlows(t *testing.T) {
	table := made(t, 3, 2)
	var list []api.Entry
	for port := range 3 {
		put(t, table, tcp(port), api.Addr(port), port, 0)
		touch(t, table, tcp(port), api.ACK, port)
		list = append(list, api.Entry{Flow: tcp(port), Dip: api.Addr(port), Epoch: port, Trusted: true, Last: port})
	}
	for port := 3; port < 500; port++ {
		out, full, err := table.Put(tcp(port), 5, 6, port)
		if full != (port >= 5) || err != nil || full && out != fresh(tcp(port-2), 5, 6, port-2) {
			t.Fatalf("Put(%v) = %v, %v, %v", tcp(port), out, full, err)
		}
	}
	holds(t, table, append(list, fresh(tcp(498), 5, 6, 498), fresh(tcp(499), 5, 6, 499))...)
}

func TestNoneIsTrustedWhereNoneMayBe(t *testing.T) {
	table := made(t, 0, 3)
	put(t, table, tcp(1), 5, 6, 7)
	put(t, table, udp(1), 5, 6, 7)
	for flags := range 64 {
		touch(t, table, tcp(1), flags, 7)
		touch(t, table, udp(1), flags, 7)
		counts(t, table, 0, 2)
	}
}

// P11.3

// kept is the machine and the epoch that a flow was last given.
type kept struct {
	dip   api.Addr
	epoch int
}

// strike takes an entry that is told to be gone from what must be there.
func strike(t *testing.T, ledger map[api.Flow]kept, f api.Flow) {
	t.Helper()
	if _, ok := ledger[f]; !ok {
		t.Fatalf("%v goes, and wasn't there", f)
	}
	delete(ledger, f)
}

// agrees wants all that was put, and is neither put out, removed nor idle, to be there.
func agrees(t *testing.T, table *flow.Table, ledger map[api.Flow]kept) {
	t.Helper()
	for f, k := range ledger {
		if e, ok := table.Get(f); !ok || e.Flow != f || e.Dip != k.dip || e.Epoch != k.epoch {
			t.Fatalf("Get(%v) = %v, %v, want %v", f, e, ok, k)
		}
	}
	if n := len(table.All()); n != len(ledger) {
		t.Fatalf("%d entries, want %d", n, len(ledger))
	}
}

// expireAsIdle wants just those to go that are idle.
func expireAsIdle(t *testing.T, table *flow.Table, ledger map[api.Flow]kept, now int) {
	t.Helper()
	before := table.All()
	gone := table.Expire(now)
	for _, e := range before {
		if slices.Contains(gone, e.Flow) != isIdle(e, now) {
			t.Fatalf("Expire(%d) = %v of %v", now, gone, before)
		}
	}
	for _, f := range gone {
		strike(t, ledger, f)
	}
}

func TestWhatWasPutIsThere(t *testing.T) {
	for seed := range uint64(12) {
		g := generator(2000 + seed)
		table := made(t, g.IntN(12), 1+g.IntN(12))
		ledger := map[api.Flow]kept{}
		for now := range 3000 {
			switch f := someFlow(g); g.IntN(10) {
			case 0, 1, 2:
				k := kept{dip: api.Addr(g.Uint32()), epoch: g.Int()}
				out, full, err := table.Put(f, k.dip, k.epoch, now)
				if full {
					strike(t, ledger, out.Flow)
				}
				if err == nil {
					ledger[f] = k
				}
			case 3:
				if table.Remove(f) == 1 {
					strike(t, ledger, f)
				}
			case 4:
				expireAsIdle(t, table, ledger, now)
			default:
				table.Touch(f, someFlags(g), now)
			}
			agrees(t, table, ledger)
		}
	}
}

// Whatever is seen of a flow, its machine and its epoch are those of its last Put.
func TestTouchKeepsTheMachine(t *testing.T) {
	for _, f := range []api.Flow{tcp(1), udp(1)} {
		table := made(t, 1, 1)
		put(t, table, f, 0xfedcba98, math.MinInt, 7)
		for flags := range 64 {
			touch(t, table, f, flags, flags)
			if e, ok := table.Get(f); !ok || e.Flow != f || e.Dip != 0xfedcba98 || e.Epoch != math.MinInt {
				t.Fatalf("Get(%v) = %v, %v", f, e, ok)
			}
		}
	}
}

// What is idle is there till Expire says that it isn't.
func TestIdleOnesAreThereTillExpire(t *testing.T) {
	table := made(t, 0, 2)
	put(t, table, tcp(1), 5, 6, 7)
	put(t, table, tcp(2), 5, 6, 1<<30)
	holds(t, table, fresh(tcp(1), 5, 6, 7), fresh(tcp(2), 5, 6, 1<<30))
	touch(t, table, tcp(1), api.SYN, 1<<30)
	expired(t, table, 1<<30)
	holds(t, table, fresh(tcp(1), 5, 6, 1<<30), fresh(tcp(2), 5, 6, 1<<30))
}

// P11.4

func TestWhatIsHandedInStays(t *testing.T) {
	row := []api.Flow{tcp(9), tcp(3), udp(2), tcp(3), {}, tcp(1)}
	was := slices.Clone(row)
	table := made(t, 3, 3)
	for port := range 3 {
		put(t, table, tcp(2*port+1), 5, 6, 7)
	}
	removed(t, table, 1, row[:3]...)
	removed(t, table, 1, row...)
	removed(t, table, 0, row[:0]...)
	expired(t, table, 100, tcp(5))
	if !slices.Equal(row, was) {
		t.Errorf("what was handed in, %v, became %v", was, row)
	}
}

func TestAnswersAreNewMemory(t *testing.T) {
	table := made(t, 1, 4)
	for port := range 4 {
		put(t, table, tcp(port), 5, 6, 7)
	}
	first, second := table.All(), table.All()
	for i := range first {
		first[i] = api.Entry{Dip: 99}
	}
	_ = append(first, api.Entry{Dip: 98}, api.Entry{Dip: 97})
	holds(t, table, second...)
	clear(second[:cap(second)])
	counts(t, table, 0, 4)
	has(t, table, fresh(tcp(2), 5, 6, 7))

	gone := table.Expire(100)
	put(t, table, tcp(7), 5, 6, 107)
	put(t, table, tcp(8), 5, 6, 107)
	clear(gone[:cap(gone)])
	holds(t, table, fresh(tcp(7), 5, 6, 107), fresh(tcp(8), 5, 6, 107))
	expired(t, table, 200, tcp(7), tcp(8))
}

func TestAnswersOutliveWhatIsDoneThen(t *testing.T) {
	table := made(t, 1, 2)
	put(t, table, tcp(1), 5, 6, 7)
	put(t, table, tcp(2), 5, 6, 8)
	all := table.All()
	out, _, _ := table.Put(tcp(3), 9, 9, 9)
	one, _ := table.Get(tcp(2))
	touch(t, table, tcp(2), api.FIN, 10)
	put(t, table, tcp(2), 11, 12, 13)
	first := table.Expire(40)
	put(t, table, tcp(4), 5, 6, 41)
	put(t, table, tcp(5), 5, 6, 41)
	expired(t, table, 1000, tcp(2), tcp(4), tcp(5))
	if !slices.Equal(all, []api.Entry{fresh(tcp(1), 5, 6, 7), fresh(tcp(2), 5, 6, 8)}) {
		t.Errorf("All became %v", all)
	}
	if out != fresh(tcp(1), 5, 6, 7) || one != fresh(tcp(2), 5, 6, 8) {
		t.Errorf("entries became %v and %v", out, one)
	}
	if !slices.Equal(first, []api.Flow{tcp(3)}) {
		t.Errorf("Expire became %v", first)
	}
}
