package dht_test

import (
	"bytes"
	"cmp"
	"errors"
	"math"
	"math/rand/v2"
	"slices"
	"testing"

	"towpath/addr"
	"towpath/api"
	"towpath/codec"
	"towpath/dht"
)

const (
	dipA api.Addr = 0x0a010001
	dipB api.Addr = 0x0a010002
	dipC api.Addr = 0x0a010705

	lastBoot = 1 << 20
	lastRoom = 4096
	patience = 4
)

var (
	// far is numbers that are none of a mux, a count, a boot, or a room.
	far      = []int{-1, -2, -32, -4096, 1<<20 + 1, 1 << 21, 1 << 32, 1<<32 + 1, 1<<32 + 32, math.MaxInt, math.MaxInt - 1, math.MinInt, math.MinInt + 1, math.MinInt + 32}
	notMuxes = append([]int{0, 1, 15, 16, 23, 24, 31, 40, 41, 47, 48, 55, 56, 64, 256 + 32}, far...)

	// notAddrs is numbers that no address has; modulo 2^32 some are dips.
	notAddrs = []int{-1, -2, 1 << 32, 1<<32 + int(dipA), 1<<32 + int(dipB), -1<<32 + int(dipA), math.MaxInt, math.MinInt, math.MinInt + int(dipA)}
)

func generator(seed uint64) *rand.Rand {
	return rand.New(rand.NewPCG(seed, 19))
}

// tcp is one of many flows of TCP; a greater port makes a greater flow.
func tcp(port int) api.Flow {
	return api.Flow{Proto: api.TCP, Src: 0x08080808, SrcPort: port, Dst: 0x01010101, DstPort: 80}
}

func notForm() []api.Flow {
	list := []api.Flow{{}}
	for _, proto := range []int{0, 1, 4, 5, 7, 16, 18, -6, 256 + 6, 1<<32 + 17, math.MaxInt, math.MinInt} {
		list = append(list, api.Flow{Proto: proto, Src: 1, SrcPort: 2, Dst: 3, DstPort: 4})
	}
	for _, port := range []int{-1, 65536, 1<<32 + 80, math.MaxInt, math.MinInt} {
		list = append(list, api.Flow{Proto: api.TCP, SrcPort: port}, api.Flow{Proto: api.UDP, DstPort: port})
	}
	return list
}

// nearest is how far it is from a key upwards to the nearest of a mux's eight points, round the end of all numbers.
func nearest(mux int, key uint64) uint64 {
	least := uint64(math.MaxUint64)
	for j := range uint64(8) {
		least = min(least, addr.Hash(j, api.Flow{Src: api.Addr(mux)})-key)
	}
	return least
}

// keepers is a flow's owners as the chapters say, worked out without a ring.
func keepers(f api.Flow, muxes int) []int {
	var all []int
	for mux := 32; mux < 32+muxes; mux++ {
		all = append(all, mux)
	}
	key := addr.Hash(0, f)
	slices.SortFunc(all, func(a, b int) int { return cmp.Compare(nearest(a, key), nearest(b, key)) })
	return all[:min(2, muxes)]
}

// owned is the first flows, rising, whose owners these are.
func owned(t *testing.T, count, muxes int, owners ...int) []api.Flow {
	t.Helper()
	var list []api.Flow
	for port := 0; port < 65536 && len(list) < count; port++ {
		if slices.Equal(keepers(tcp(port), muxes), owners) {
			list = append(list, tcp(port))
		}
	}
	if len(list) < count {
		t.Fatalf("of %d muxes %v own %d flows", muxes, owners, len(list))
	}
	return list
}

// made is a Dht that there must be.
func made(t *testing.T, node, boot, muxes, room int) *dht.Dht {
	t.Helper()
	d, err := dht.New(node, boot, muxes, room)
	if d == nil || err != nil {
		t.Fatalf("New(%d, %d, %d, %d) = %v, %v", node, boot, muxes, room, d, err)
	}
	return d
}

// msg is a message, its numbers written down one by one.
func msg(kind, task int, f api.Flow, behind ...int) api.Msg {
	nums := []int{task, f.Proto, int(f.Src), f.SrcPort, int(f.Dst), f.DstPort}
	return api.Msg{Kind: kind, Nums: append(nums, behind...)}
}

func mBind(task int, f api.Flow, dip api.Addr, epoch int, old api.Addr) api.Msg {
	return msg(15, task, f, int(dip), epoch, int(old))
}

func mCopy(task int, f api.Flow, dip api.Addr, epoch, fresh int) api.Msg {
	return msg(17, task, f, int(dip), epoch, fresh)
}

func mCopied(task int, f api.Flow, dip api.Addr, epoch int) api.Msg {
	return msg(18, task, f, int(dip), epoch)
}

func post(to int, m api.Msg) api.Post {
	return api.Post{To: to, Ctl: true, Msg: m}
}

// bound is the answer to another mux.
func bound(to, task int, f api.Flow, dip api.Addr, epoch, sure int) api.Post {
	return post(to, msg(16, task, f, int(dip), epoch, sure))
}

// own is the answer to itself.
func own(to, task int, f api.Flow, dip api.Addr, epoch int, sure bool) api.Bound {
	return api.Bound{To: to, Task: task, Flow: f, Dip: dip, Epoch: epoch, Sure: sure}
}

func lost(node int, dip api.Addr, f api.Flow) api.Saw {
	return api.Saw{Node: node, Kind: 4, Dip: dip, Flow: f}
}

func evicted(node int, dip api.Addr, f api.Flow) api.Saw {
	return api.Saw{Node: node, Kind: 5, Dip: dip, Flow: f}
}

func samePost(a, b api.Post) bool {
	return a.To == b.To && a.Ctl == b.Ctl && bytes.Equal(a.Bytes, b.Bytes) &&
		a.Msg.Kind == b.Msg.Kind && slices.Equal(a.Msg.Nums, b.Msg.Nums) && bytes.Equal(a.Msg.Data, b.Msg.Data)
}

func sameSaw(a, b api.Saw) bool {
	return a.Node == b.Node && a.Kind == b.Kind && a.Reason == b.Reason && a.Dip == b.Dip && a.Flow == b.Flow && bytes.Equal(a.Bytes, b.Bytes)
}

// posted wants this to have been posted since it was asked last, and to be told once.
func posted(t *testing.T, d *dht.Dht, want ...api.Post) {
	t.Helper()
	posts := d.Out()
	if !slices.EqualFunc(posts, want, samePost) {
		t.Fatalf("Out() = %.600v, want %.600v", posts, want)
	}
	for _, p := range posts {
		if _, err := codec.Frame(p.Msg); err != nil {
			t.Fatalf("%.400v can't be framed: %v", p, err)
		}
	}
	if posts := d.Out(); len(posts) > 0 {
		t.Fatalf("Out() told twice: %.400v", posts)
	}
}

func answered(t *testing.T, d *dht.Dht, want ...api.Bound) {
	t.Helper()
	if got := d.Answers(); !slices.Equal(got, want) {
		t.Fatalf("Answers() = %.600v, want %.600v", got, want)
	}
	if got := d.Answers(); len(got) > 0 {
		t.Fatalf("Answers() told twice: %.400v", got)
	}
}

func noted(t *testing.T, d *dht.Dht, want ...api.Saw) {
	t.Helper()
	if got := d.Notes(); !slices.EqualFunc(got, want, sameSaw) {
		t.Fatalf("Notes() = %.600v, want %.600v", got, want)
	}
	if got := d.Notes(); len(got) > 0 {
		t.Fatalf("Notes() told twice: %.400v", got)
	}
}

// quiet wants nothing to have been posted, answered or noted.
func quiet(t *testing.T, d *dht.Dht) {
	t.Helper()
	posted(t, d)
	answered(t, d)
	noted(t, d)
}

// forget has all be told that there is to tell.
func forget(d *dht.Dht) {
	d.Out()
	d.Answers()
	d.Notes()
}

func has(t *testing.T, d *dht.Dht, f api.Flow, dip api.Addr, epoch int) {
	t.Helper()
	if a, e, ok := d.Get(f); a != dip || e != epoch || !ok {
		t.Fatalf("Get(%v) = %#x, %d, %v, want %#x, %d, true", f, a, e, ok, dip, epoch)
	}
}

// misses wants flows not to have a record.
func misses(t *testing.T, d *dht.Dht, flows ...api.Flow) {
	t.Helper()
	for _, f := range flows {
		if a, e, ok := d.Get(f); a != 0 || e != 0 || ok {
			t.Fatalf("Get(%v) = %#x, %d, %v, want none", f, a, e, ok)
		}
	}
}

func counts(t *testing.T, d *dht.Dht, want int) {
	t.Helper()
	if got := d.Len(); got != want {
		t.Fatalf("Len() = %d, want %d", got, want)
	}
}

// P19.1

func TestExampleOfOneMux(t *testing.T) {
	d := made(t, 32, 0, 1, 8)
	d.Bind(32, 1, tcp(1), dipA, 3, 0)
	answered(t, d, own(32, 1, tcp(1), dipA, 3, true))
	quiet(t, d)
	has(t, d, tcp(1), dipA, 3)
	counts(t, d, 1)
}

func TestExampleOfTwoMuxes(t *testing.T) {
	f := owned(t, 1, 2, 32, 33)[0]
	d := made(t, 32, 0, 2, 8)
	d.Bind(32, 1, f, dipA, 3, 0)
	posted(t, d, post(33, mCopy(1, f, dipA, 3, 1)))
	quiet(t, d)
	d.Receive(33, mCopied(1, f, dipA, 3))
	answered(t, d, own(32, 1, f, dipA, 3, true))
	quiet(t, d)

	d = made(t, 32, 0, 2, 8)
	d.Bind(32, 1, f, dipA, 3, 0)
	posted(t, d, post(33, mCopy(1, f, dipA, 3, 1)))
	for range 3 {
		d.Tick()
		quiet(t, d)
	}
	d.Tick()
	answered(t, d, own(32, 1, f, dipA, 3, false))
	noted(t, d, lost(32, dipA, f))
	quiet(t, d)
	for range 20 {
		d.Tick()
		quiet(t, d)
	}
}

// The owners were worked out from the chapters' words apart from this program, of one mux, two, three and so on.
func TestKnownOwners(t *testing.T) {
	for _, c := range []struct {
		f    api.Flow
		want [8][]int
	}{
		{tcp(5000), [8][]int{{32}, {33, 32}, {33, 34}, {33, 34}, {33, 34}, {37, 33}, {37, 33}, {39, 37}}},
		{tcp(5001), [8][]int{{32}, {33, 32}, {33, 32}, {35, 33}, {36, 35}, {36, 35}, {36, 35}, {36, 35}}},
		{api.Flow{Proto: 17, Src: 0x08080808, SrcPort: 5000, Dst: 0x01010101, DstPort: 80}, [8][]int{{32}, {33, 32}, {33, 32}, {33, 35}, {33, 36}, {33, 37}, {33, 37}, {33, 37}}},
		{api.Flow{Proto: 6}, [8][]int{{32}, {33, 32}, {33, 32}, {35, 33}, {35, 36}, {37, 35}, {37, 38}, {37, 38}}},
		{api.Flow{Proto: 17, Src: math.MaxUint32, SrcPort: 65535, Dst: math.MaxUint32, DstPort: 65535}, [8][]int{{32}, {33, 32}, {33, 34}, {33, 34}, {33, 34}, {37, 33}, {37, 33}, {39, 37}}},
		{api.Flow{Proto: 6, Src: 0x01010101, SrcPort: 80, Dst: 0x08080808, DstPort: 5000}, [8][]int{{32}, {32, 33}, {34, 32}, {34, 32}, {34, 32}, {34, 32}, {34, 32}, {34, 32}}},
		{api.Flow{Proto: 6, Src: 0x0a010001, SrcPort: 1024, Dst: 0x02020202, DstPort: 443}, [8][]int{{32}, {32, 33}, {32, 33}, {35, 32}, {36, 35}, {36, 35}, {36, 35}, {36, 35}}},
		{api.Flow{}, [8][]int{{32}, {32, 33}, {32, 33}, {32, 33}, {36, 32}, {36, 32}, {36, 38}, {36, 38}}},
		{api.Flow{Proto: 256 + 6, Src: 0x08080808, SrcPort: 65536 + 5000, Dst: 0x01010101, DstPort: 3*65536 + 80}, [8][]int{{32}, {33, 32}, {33, 34}, {33, 34}, {33, 34}, {37, 33}, {37, 33}, {39, 37}}},
		{api.Flow{Proto: -1, Src: 1, SrcPort: -1, Dst: 1, DstPort: -1}, [8][]int{{32}, {33, 32}, {33, 34}, {35, 33}, {36, 35}, {36, 37}, {36, 37}, {36, 37}}},
	} {
		for i, want := range c.want {
			if got := dht.Owners(c.f, i+1); !slices.Equal(got, want) {
				t.Errorf("Owners(%v, %d) = %v, want %v", c.f, i+1, got, want)
			}
		}
	}
}

func TestOwners(t *testing.T) {
	random := generator(1)
	for range 2000 {
		f := api.Flow{Proto: 6 + 11*random.IntN(2), Src: api.Addr(random.Uint32()), SrcPort: random.IntN(65536), Dst: api.Addr(random.Uint32()), DstPort: random.IntN(65536)}
		for muxes := 1; muxes <= 8; muxes++ {
			if got, want := dht.Owners(f, muxes), keepers(f, muxes); !slices.Equal(got, want) {
				t.Fatalf("Owners(%v, %d) = %v, want %v", f, muxes, got, want)
			}
		}
		for _, muxes := range append([]int{0, 9, 10, 16, 32, 65, 256 + 2}, far...) {
			if got := dht.Owners(f, muxes); len(got) > 0 {
				t.Fatalf("Owners(%v, %d) = %v, want none", f, muxes, got)
			}
		}
	}
}

func TestNewTakesAllThatMayBe(t *testing.T) {
	for muxes := 1; muxes <= 8; muxes++ {
		for node := 32; node < 32+muxes; node++ {
			for _, boot := range []int{0, 1, lastBoot - 1, lastBoot} {
				for _, room := range []int{0, 1, lastRoom - 1, lastRoom} {
					d := made(t, node, boot, muxes, room)
					quiet(t, d)
					counts(t, d, 0)
					misses(t, d, append(notForm(), tcp(0), tcp(1))...)
				}
			}
		}
	}
}

func refused(t *testing.T, node, boot, muxes, room int, want error) {
	t.Helper()
	if d, err := dht.New(node, boot, muxes, room); d != nil || !errors.Is(err, want) {
		t.Fatalf("New(%d, %d, %d, %d) = %v, %v, want nil, %v", node, boot, muxes, room, d, err, want)
	}
}

func TestNewRefusesNumbersAheadOfNodes(t *testing.T) {
	for _, node := range append([]int{32, 33, 39}, notMuxes...) {
		for _, muxes := range append([]int{0, 9, 10, 32, 256 + 2}, far...) {
			refused(t, node, 0, muxes, 8, api.ErrRange)
		}
		for _, boot := range far {
			refused(t, node, boot, 2, 8, api.ErrRange)
		}
		for _, room := range append([]int{4097, 4098, 8192}, far...) {
			refused(t, node, 0, 2, room, api.ErrRange)
		}
	}
}

func TestNewRefusesNodesThatAreNoMuxes(t *testing.T) {
	for muxes := 1; muxes <= 8; muxes++ {
		for _, node := range notMuxes {
			refused(t, node, 0, muxes, 8, api.ErrNode)
		}
		for node := 32 + muxes; node < 42; node++ {
			refused(t, node, 0, muxes, 8, api.ErrNode)
		}
	}
}

func TestNil(t *testing.T) {
	var d *dht.Dht
	for _, f := range append(notForm(), tcp(1)) {
		d.Bind(32, 1, f, dipA, 3, 0)
		d.Receive(32, mBind(1, f, dipA, 3, 0))
		d.Receive(33, mCopy(1, f, dipA, 3, 1))
		d.Receive(33, mCopied(1, f, dipA, 3))
		d.Receive(33, api.Msg{})
		for range 5 {
			d.Tick()
		}
		quiet(t, d)
		misses(t, d, f)
		counts(t, d, 0)
	}
}

// P19.4

func TestHandedInStaysAsItIs(t *testing.T) {
	f := owned(t, 1, 2, 32, 33)[0]
	for _, m := range []api.Msg{mBind(1, f, dipA, 3, 0), mBind(1, f, dipB, 4, dipA), mCopy(7, f, dipB, 3, 1), mCopy(7, f, dipB, 9, 0), mCopied(1, f, dipB, 3)} {
		d := made(t, 32, 0, 2, 8)
		d.Bind(32, 1, f, dipA, 3, 0)
		spare := append(slices.Clone(m.Nums), 5, 6, 7)
		given := api.Msg{Kind: m.Kind, Nums: spare[:len(m.Nums)], Data: []byte{1, 2, 3}}
		d.Receive(33, given)
		if !slices.Equal(spare, append(slices.Clone(m.Nums), 5, 6, 7)) || !bytes.Equal(given.Data, []byte{1, 2, 3}) {
			t.Fatalf("%v became %v", m, given)
		}
		dip, epoch, _ := d.Get(f)
		clear(spare)
		has(t, d, f, dip, epoch)
		for _, p := range d.Out() {
			if p.Msg.Nums[0] == 0 || p.Msg.Nums[1] == 0 {
				t.Fatalf("a posted message has become %v", p)
			}
		}
	}
}

func TestAnswersAreNewMemory(t *testing.T) {
	flows := owned(t, 6, 2, 32, 33)
	d := made(t, 32, 0, 2, 2)
	fill := func(flows ...api.Flow) {
		for i, f := range flows {
			d.Bind(32, i, f, dipA, 3, 0)
			d.Bind(33, i, f, dipA, 3, 0)
		}
		for range patience {
			d.Tick()
		}
	}
	fill(flows[:2]...)
	posts, answers, notes := d.Out(), d.Answers(), d.Notes()
	for i := range posts {
		// What is put behind one row must not be another one's.
		_ = append(posts[i].Msg.Nums, -1, -2, -3)
		clear(posts[i].Msg.Nums)
		for _, other := range posts[i+1:] {
			if other.Msg.Nums[1] != api.TCP {
				t.Fatalf("two messages share their numbers: %v", other)
			}
		}
	}
	clear(posts)
	clear(answers)
	clear(notes)
	_ = append(posts[:0], make([]api.Post, cap(posts))...)
	_ = append(answers[:0], make([]api.Bound, cap(answers))...)
	_ = append(notes[:0], make([]api.Saw, cap(notes))...)
	for _, f := range flows[:2] {
		has(t, d, f, dipA, 3)
	}
	quiet(t, d)
	fill(flows[2:4]...)
	posted(t, d,
		post(33, mCopy(3, flows[2], dipA, 3, 1)), post(33, mCopy(4, flows[3], dipA, 3, 1)),
		bound(33, 0, flows[2], dipA, 3, 0), bound(33, 1, flows[3], dipA, 3, 0))
	again := d.Answers()
	notes = d.Notes()
	fill(flows[4:]...)
	if !slices.Equal(again, []api.Bound{own(32, 0, flows[2], dipA, 3, false), own(32, 1, flows[3], dipA, 3, false)}) {
		t.Fatalf("answers have become %v", again)
	}
	want := []api.Saw{evicted(32, dipA, flows[0]), evicted(32, dipA, flows[1]), lost(32, dipA, flows[2]), lost(32, dipA, flows[3])}
	if !slices.EqualFunc(notes, want, sameSaw) {
		t.Fatalf("notes have become %v", notes)
	}
}

func TestOwnersAreNewMemory(t *testing.T) {
	a, b := dht.Owners(tcp(1), 8), dht.Owners(tcp(1), 8)
	clear(a)
	if !slices.Equal(b, keepers(tcp(1), 8)) || !slices.Equal(dht.Owners(tcp(1), 8), b) {
		t.Fatalf("Owners(%v, 8) has become %v", tcp(1), b)
	}
}

// Two of them, also of one mux, have nothing in common.
func TestDhtsAreApart(t *testing.T) {
	f := owned(t, 1, 2, 32, 33)[0]
	a, b := made(t, 32, 1, 2, 8), made(t, 32, 1, 2, 8)
	a.Bind(32, 1, f, dipA, 3, 0)
	quiet(t, b)
	misses(t, b, f)
	b.Bind(33, 2, f, dipB, 4, 0)
	posted(t, a, post(33, mCopy(lastBoot+1, f, dipA, 3, 1)))
	posted(t, b, post(33, mCopy(lastBoot+1, f, dipB, 4, 1)))
	a.Receive(33, mCopied(lastBoot+1, f, dipA, 3))
	answered(t, a, own(32, 1, f, dipA, 3, true))
	quiet(t, b)
	has(t, a, f, dipA, 3)
	has(t, b, f, dipB, 4)
}
